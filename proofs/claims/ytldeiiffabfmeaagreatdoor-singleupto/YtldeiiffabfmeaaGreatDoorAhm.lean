/- - -/
import Derived.Deep.Cut
import Derived.ChangeKeysEq
import Derived.Test.YtldeiiffabfmeaaGreatDoorRows
import Derived.Deep.Slices
import Derived.Carry
import Derived.ProofKit
import Derived.OpenShut
import Derived.JoinedCond
import Derived.LaidMore
import Derived.Test.YtldeiiffabfmeaaGreatDoorCards
import Derived.Test.YtldeiiffabfmeaaGreatDoorTie
import Derived.Conc.LeavingOf
import Derived.Deep.DeepHandedRow
import Derived.SevenTiedAt
import Derived.Test.YtldeiiffabfmeaaGreatDoorAdm
import Derived.Test.YtldeiiffabfmeaaGreatDoorAgm
set_option linter.all false
set_option maxRecDepth 100000
set_option maxHeartbeats 4000000
open Go renaming undef->J,Value->y,World->ai,Code->aK,TypeId->aY,Calls->aZ,Addr->bG,DataW->bJ,execOp->bN,Oper->bY,MemPlace->bZ,Exit->cf,results->cj,Question->cF,bodyPost_ret->cU,Operand->dt,wpList->du,Program->dE,OpenClaim->eH
open Option renaming none->X,some->u,getD_some->aA,map_some->ej,isSome_iff_exists->fM
open Go.Value renaming slice->ae,int->aj,pointer->ar,agg->aM,tuple->aU,bool->bD,func->bK,nilFunc->cx,map->dz,string->dN,nilIface->dO,cells->fT
open Go.IntKind renaming i64->ah
open Bool renaming true->ak,false->au,and_eq_true->bQ,not_eq_true'->fo,true_and->fV,or_eq_true->fY,not_true->gj
open Go.Proofs.Tryz renaming prog->ao,f36->aJ,f67->dg,f12->dB,underlying22->dI,underlying25->dQ,underlying26->dR,results55->dU,f31->dV,underlying3->ek,func55->eQ,ntmps55->eV,func67->fj,underlying86->fE,underlying87->fF,underlying42->fH,underlying250->fJ,func58->gw,ntmps58->gx,results58->gy
open Go.World renaming cell?->aq,alloc->aD,setCells->cY,block_lt_of_cell?->dM,ownsRow->dZ,frozen?->eh,cells?_some->ez,setCell->eN,cell?_spot->fy,cell?_of_block->fN,size_alloc->fS,cell?_alloc_lt->fU,ownsRow_nil->gA
open Go.RowKit renaming Below->ax,intOf->aQ
open Go.Obj renaming cells->ay
open Go.RowKit.Below renaming setCell->az,trans->aE,mono->aO,cell->bO,alloc->dD,heap_setCell->eX
open Go.Calls renaming mono->aF,quiet_of_same->gz
open Or renaming inr->aH,inl->aP
open Nat renaming lt_of_lt_of_le->aN,le_trans->bh,zero_add->bV,add_assoc->cJ,mod_lt->dW,eq_zero_or_pos->ey,zero_mul->fA,mul_comm->fB,mul_one->fL
open Eq renaming trans->aT
open Go.Ending renaming returned->aX
open Go.Operand renaming tmp->bj
open Go.Proofs.YtldeiiffabfmeaaGreatDoor.Rows renaming uptoBulk->bn,uptoBulkAll->dA,laid_orderly_code_steps->eG
open Go.Code renaming seq->bu,skip->cG,cond->cV,region->dk,wp->fQ
open Go.DataW renaming trod->bC,trod_struct->dH,slice->fw,trod_int->fx
open Option.some renaming inj->bE,injEq->gD
open Go.Exit renaming normal->bH,ret->cA,inBlock->ee
open List renaming range->bI,getElem?_eq_getElem->cd,mem_of_getElem?->cH,setIfInBounds_toArray->cN,set_cons_succ->cO,set_cons_zero->cT,getElem?_map->dw,mem_map->dy,all_eq_true->dF,getElem?_eq_some_iff->dG,foldl->dK,mem_filter->dL,getElem?_eq_none->dS,mem_append->dX,mem_range->eF,take_of_length_le->eO,any_eq_true->eP,take_add_one->eY,getElem?_append_right->eZ,take->fc,drop->fg,length_filter_le->fi,mem_iff_getElem?->fl,getElem?_take->fq,mem_cons->ft,ext_getElem?->fK,map_take->fX,find?_filter->fZ,mem_of_find?_eq_some->gd,getD->gB
open Go.Ground renaming data->bP
open Go.Fn renaming func->bU
open Go.Act renaming put->cr
open Go.Lit renaming int->cD
open Go.Program renaming underlying->cZ
open Go.Region renaming binds->de,ready->fP
open Array renaming setIfInBounds->dJ,replicate->dY,getElem?_setIfInBounds->eJ,getElem?_replicate->eK,all_eq_true_iff_forall_mem->fa,mem_of_getElem?->fp,getElem?_eq_some_iff->fu,ext'->fI
open Go.WideShapes renaming add_plain->dP,okWide_struct->gC
open Go.Deep renaming open_slice->eu
open Go.Lib renaming run_eql_slice_nil->eM
variable{h j l m:ai}{o t:List y}
namespace Go.Proofs.YtldeiiffabfmeaaGreatDoor
section
open Go.RowKit
section
variable{w:ai}{x:V}{c:jH}{vB vL:y}{cX:V->y}{s0:lH}{E:jL}
def anb{i:Y}(hi:jF i 0 ((c.D.nl:Y)-1)=au)(h:lK w x c vB vL cX E):aZ ao 55 #[ar x,i] w λe g=>e=aX (aU #[aM #[au,au,aj ah 0,aj ah 0,aj ah 0,aj ah 0],aj ah 5])/\ax w w g:=by
 have c5:=h.jP h.c5;have d:=h.jT.lt;obtain⟨a,cap,rfl,k,-⟩:=h.l.rd;simp[jF]at hi;by_cases b:i<0;.go_enter eQ,eV;go_wp2_with fail;exact cU (by simp[cj,dU,go_sem]) rfl ⟨rfl,kI⟩
 have f:decide (i<0)=au:=by simpa using b
 have j:(c.D.nl)<=i:=A
 go_enter eQ,eV;go_wp2_with fail;exact cU (by simp[cj,dU,go_sem]) rfl ⟨rfl,kI⟩
def Vk{w:ai}{b:V}{d a:I}{r0 r1 r2 r3:Y}(h:je w b 75 6<|lc [d,a,r0,r1,r2,r3]):aq w b=u (bD d)/\aq w (b 1 X)=u (bD a)/\aq w (b 2 X)=u (aj ah r0)/\aq w (b 3 X)=u (aj ah r1)/\aq w (b 4 X)=u (aj ah r2)/\aq w (b 5 X)=u (aj ah r3)/\∀o,eh w (b o X)=au:=⟨h.el _,h.el _,h.el _,h.el _,h.el _,h.el _,h.kr⟩
def ahn(H:mu c)(S:nj c s0 E){i:V}(hi:i<c.D.nl)(h:lK w x c vB vL cX E):aZ ao 55 #[ar x,i] w λe R=>e=aX (aU #[aM #[(ub c E i).dn,(ub c E i).ab,((ub c E i).r 0),((ub c E i).r 1),((ub c E i).r 2),((ub c E i).r 3)],aj ah 0])/\ax w w R:=by
 have c5:=h.jP h.c5;have nt:=h.nl;have jX:=h.nb;have t:=h.jT.lt;obtain⟨a,cap,rfl,W,-⟩:=h.l.rd;have T:¬(i:Y)<0:=A
 have Q:decide ((i:Y)<0)=au:=F0
 have g2:¬(c.D.nl:Y)<=(i:Y):=A
 have r0:=lZ w [au,au,aj ah 0,aj ah 0,aj ah 0,aj ah 0] 75;have m:Hid<|(Aj c E i=au/\ub c E i=zZ)\/(Aj c E i=ak/\Lu c s0 i (ub c E i)):=S.YQ H hi;go_enter eQ,eV;go_wp2_with fail;go_loopw[6](λC wr=>∃p:V,p<=c.D.nb+1/\C=p/\ax (w.heap.size+1) (aD w<|ay #[au,au,aj ah 0,aj ah 0,aj ah 0,aj ah 0] 75) wr/\lU (λp=>!lY c i p||my (E p) i) p=ak)(λC _=>c.D.nb+1-(aQ C).toNat);exact⟨0,j9,rfl,jQ,rfl⟩;obtain⟨p,hp,rfl,k,f⟩:=hrel;have n:ax w w wr:=aE kI<|aO k A;have j:=h.below n;have N:w.heap.size+1<=wr:=by have:=k.size;simpa using this
 have c4:=j.jP j.c4;have r1:=r0.below (w':=wr) (by simpa using k);by_cases t:p<c.D.nb+1;. (have q:(p:Y)<(c.D.nb:Y)+1:=A);have hS:=j.s p i A hi;have d2:=λo b=>(j.below (w':=o) b).jP hS.d (by unfold j7;omega);unfold j7 at d2;cases q0:lY c i p with|false=>have F:Hid<|_=_:=wZ f (by simp[q0]);clear f d2;go_wp2_with fail;apply aF (AJ _ c vB _ _ i p hi j.nJ);rintro e o⟨rfl,b⟩;rw[BX H hi,q0];go_wp2_with fail;go_roundw;exact⟨p+1,A,pR,aE k<|aO b N,F.out⟩;simp[aQ];omega|true=>(have O:na c p (E p) i=my (E p) i:=by simp[na,oI,q0,my,ky]);cases q1:my (E p) i with|true=>have F:Hid<|_=_:=wZ f (by simp[q1]);clear f;go_wp2_with fail;apply aF (AJ _ c vB _ _ i p hi j.nJ);rintro e o⟨rfl,b⟩;rw[BX H hi,q0];replace d2:=d2 o b;rw[O,q1]at d2;go_wp2_with fail;go_roundw;exact⟨p+1,A,pR,aE k<|aO b N,F.out⟩;simp[aQ];omega|false=>(have z:Hid<|ub c E i=zZ:=by have:Aj c E i=au:=zf t (by simp[q0,q1]);grind);clear f;go_wp2_with fail;apply aF (AJ _ c vB _ _ i p hi j.nJ);rintro e o⟨rfl,b⟩;rw[BX H hi,q0];replace d2:=d2 o b;rw[O,q1]at d2;let⟨B,l1,l2,l3,G,l5,P⟩:=Vk<|r1.below b;go_wp2_with fail;refine cU (v:=aU #[aM #[au,au,aj ah 0,aj ah 0,aj ah 0,aj ah 0],aj ah 0]) (by simp[cj,dU,go_sem,B,l1,l2,l3,G,l5]) rfl ⟨by rw[z.out];rfl,?_⟩;exact az (az (az (az (az (az (aE n<|aO b A) jK _) jK _) jK _) jK _) jK _) jK _
 . (have q:¬(p:Y)<(c.D.nb:Y)+1:=A);(have hd:Aj c E i=ak:=by unfold Aj;grind);(have z:Hid<|ub c E i=E.kO i/\(E.kO i).dn=ak:=by(have K:ub c E i=E.kO i:=by unfold ub;rw[hd];rfl);rcases m.out with g|g;(.grind);.exact⟨K,K▸g.2.1⟩);have e0:aq wr (x (97878+i*4) X)=u (aj ah<|(E.kO i).r 0):=j.jP<|j.r i hi 0 A;have e1:=j.jP<|j.r i hi 1 A;have e2:=j.jP<|j.r i hi 2 A;have e3:=j.jP<|j.r i hi 3 A;have ea:=j.jP<|j.a i hi;let⟨B,l1,l2,l3,G,l5,P⟩:=Vk r1;(have M:i<24:=A);clear f hd m;go_wp2_with fail;go_region;go_wp2_with fail;refine cU (v:=aU #[aM #[ak,(E.kO i).ab,((E.kO i).r 0),((E.kO i).r 1),((E.kO i).r 2),((E.kO i).r 3)],aj ah 0]) (by simp[cj,dU,go_sem,B,l1,l2,l3,G,l5]) rfl ⟨by rw[z.out.1,z.out.2],?_⟩;exact(az (az (az (az (az (az n jK _) jK _) jK _) jK _) jK _) jK _).drew
end
def Il:L y:=[jw,jw,jw,jw,jw,jw,jw,jw,kQ]
def RL(a W:V)(c:V->y)(b:V):U:=b<a/\b≠W/\(c 3).ownBlock≠u b/\(c 4).ownBlock≠u b/\(c 5).ownBlock≠u b
structure Aa(base W M0 LG SR k3 k4 nl ns N0:V)(c0:V->y)(fs:V->Y)(ts:V->jE)(vM:L y)(gl:y)(vu vx:V->y)(lo hi:V->V)(w2 wL:ai)(i Lb:V)(cW:V->y)(wq:ai):U where
 x:je wq W 37 9 cW
 mW:∀j,j≠3->j≠4->j≠5->cW j=c0 j
 t3:TL wq base (·<Lb) 22 3 1 (λ_=>-7) (cW 3)<|k3+1+2*i
 t4:TL wq base (·<Lb) 86 159 2 (λ_=>-7) (cW 4)<|k4+i
 t5:TL wq base (·<Lb) 87 161 4 tU (cW 5)<|k4+i
 lb:∀k,i<=k->k<nl->Lb<=lo k
 lbw:base<=Lb/\Lb<=N0
 g:lO wq wL 89 4 gl nl vu
 l:je wq LG 91 ((nl+1)*4)<|zK nl vx
 at_:∀k,i<=k->k<nl->Ah wq (ts k) (lo k) (hi k) (vu<|k*4) (vu<|k*4+1) (vu<|k*4+2) (vu<|k*4+3) (vx<|k*4) (vx<|k*4+1) (vx<|k*4+2) (vx<|k*4+3)
 s:je wq SR 81 ((ns+1)*2)<|ld<|mD (ns*2) fs
 m:je wq M0 28 6<|lc vM
 bl:ax base w2 wq
 lS:jq (RL M0 W c0) w2 wq
 xO:jq (λb=>N0<=b) w2 wq
 jV:∀q,q=3\/q=4\/q=5->∀g,(cW q).ownBlock=some g->w2.heap.size<=g\/(g<M0/\(c0 q).ownBlock=some g)
structure TM(base W M0 LG SR nl N0:V)(gl:y)(lo hi:V->V)(w2 wL:ai):U where
 w:W<M0
 m:M0<wL
 l:LG<wL/\M0<=LG
 s:∀k,k<nl->hi k<=SR
 sN:SR<N0/\M0<=SR
 up:∀k,k<nl->wL<=lo k/\lo k<=hi k/\hi k<=N0
 uo:∀k k',k<k'->k'<nl->hi k<=lo k'
 go:∀k,k<nl->∀g,gl.ownBlock=some g->¬(lo k<=g/\g<hi k)
 gN:∀g,gl.ownBlock=some g->g<N0
 b:base<=wL
 n:N0<=w2/\wL<=N0
def Aa.mq{base W p LG SR k3 k4 nl ns N0:V}{c0:V->y}{fs:V->Y}{ts:V->jE}{F:y}{S M:V->y}{lo hi:V->V}{i Lb:V}{v a:V->y}{E t:ai}(h:Aa base W p LG SR k3 k4 nl ns N0 c0 fs ts o F S M lo hi j l i Lb v E)(H:TM base W p LG SR nl N0 F lo hi j l)(r:i<nl)(x:je t W 37 9 a)(same:∀f,f≠3->f≠4->f≠5->a f=v f)(t3:TL t base (·<hi i) 22 3 1 (λ_=>-7) (a 3)<|k3+1+2*i+2)(t4:TL t base (·<hi i) 86 159 2 (λ_=>-7) (a 4)<|k4+i+1)(t5:TL t base (·<hi i) 87 161 4 tU (a 5)<|k4+i+1)(kp:jq (RS W (lo i) (hi i) v) E t)(bl:ax base E t)(own:∀q,q=3\/q=4\/q=5->(a q).ownBlock=(v q).ownBlock\/∃b,(a q).ownBlock=u b/\E.heap.size<=b):Aa base W p LG SR k3 k4 nl ns N0 c0 fs ts o F S M lo hi j l (i+1) (hi i) a t:=by
 have G:=H.up i r;have D:=H.b;have hm:=H.m;have hW:=H.w;have o3:=h.jV 3<|aP rfl;have o4:=h.jV 4<|aH<|aP rfl;have o5:=h.jV 5<|aH<|aH rfl;have hn:=H.n;have hs:∀g,p<=g->(g<lo i\/hi i<=g)->g<j.heap.size->RS W (lo i) (hi i) v g:=λg P B Q=>⟨A,B,λe=>pC,λe=>pC,λe=>pC⟩;have K:∀b,RL p W c0 b->b<j.heap.size->RS W (lo i) (hi i) v b:=λb⟨P,B,Q,h4,h5⟩z=>⟨B,aP A,λe=>(o3 b e).elim A λe=>Q e.2,λe=>(o4 b e).elim A λe=>h4 e.2,λe=>(o5 b e).elim A λe=>h5 e.2⟩;have B:=h.bl.size;refine⟨x,λf R N O=>aT (same f R N O)<|h.mW f R N O,?_,t4,t5,λk hk d=>H.uo i k A d,⟨A,G.2.2⟩,?_,?_,λk hk d=>?_,?_,?_,aE h.bl bl,?_,?_,λq hq g C=>?_⟩;.omega
 .exact h.g.jr λg C=>kp.jg g (hs g (by have:=(h.g.lt g C).1;omega) (by have:=H.go i r g C;omega)<|by have:=H.gN g C;omega) (h.g.lt g C).2
 .exact h.l.jg<|kp.jg LG (hs LG H.l.2 (by have:=H.l;omega)<|by have:=H.l;omega) h.l.lt
 .refine(h.at_ k A d).jr kp λg T m c P B K hT=>?_;have:=H.uo i k A d;have:=H.up k d;grind
 .exact h.s.jg<|kp.jg SR (hs SR H.sN.2 (by have:=H.s i r;omega)<|by have:=H.sN;omega) h.s.lt
 .exact h.m.jg<|kp.jg p (hs p jK A A) h.m.lt
 .exact⟨bh h.lS.jB kp.jB,λb D z=>by rw[kp.jg b (K b D z) A];exact h.lS.jg b D z⟩
 .exact⟨bh h.xO.jB kp.jB,λb D z=>by rw[kp.jg b (hs b A A z) A];exact h.xO.jg b D z⟩
 grind
def Aa.below{base W c LG SR k3 k4 nl ns N0:V}{c0:V->y}{fs:V->Y}{ts:V->jE}{d:y}{n f:V->y}{lo hi:V->V}{i p:V}{e:V->y}{w':ai}(h:Aa base W c LG SR k3 k4 nl ns N0 c0 fs ts o d n f lo hi j l i p e m)(a:ax m m w')(b:base<=m):Aa base W c LG SR k3 k4 nl ns N0 c0 fs ts o d n f lo hi j l i p e w':=⟨h.x.below a,h.mW,h.t3.below a,h.t4.below a,h.t5.below a,h.lb,h.lbw,h.g.below a,h.l.below a,λk q r=>(h.at_ k q r).below a,h.s.below a,h.m.below a,aE h.bl<|aO a b,h.lS.jA<|jq.km a,h.xO.jA<|jq.km a,h.jV⟩
def oZ.Rc{P:V->U}{w:ai}{base W k3 k4 k6 f n:V}{b vs:V->y}(h:oZ P w base W k3 k4 k6 f n b vs)(q:V)(k:q<9)(g:V)(a:(b q).ownBlock=u g):g<w:=by
 have n1:=h.n1;have n2:=h.n2;have n8:=h.n8;let⟨_,i,_⟩:=h.t3;let⟨_,e,_⟩:=h.t4;let⟨_,c,_⟩:=h.t5;let⟨_,d,_⟩:=h.t6;let⟨_,j,_⟩:=h.t7;have:q=0\/q=1\/q=2\/q=3\/q=4\/q=5\/q=6\/q=7\/q=8:=A
 rcases this with rfl|rfl|rfl|rfl|rfl|rfl|rfl|rfl|rfl;.exact(h.t0.lt g a).2
 .rw[n1]at a;cases a
 .rw[n2]at a;cases a
 .exact(i.lt g a).2
 .exact(e.lt g a).2
 .exact(c.lt g a).2
 .exact(d.lt g a).2
 .exact(j.lt g a).2
 .rw[n8]at a;cases a
def TL.FO{w:ai}{base e T sz k:V}{P P':V->U}{f:V->Y}{v:y}(h:TL w base P e T sz f v k)(b:∀g m c,P g->je w g T m c->P' g):TL w base P' e T sz f v k:=by let⟨vs,a,d⟩:=h;refine⟨vs,a,λi hi=>?_⟩;grind
def oZ.loop{ws:ai}{base W i LG SR k3 k4 k6 n D s m O:V}{c0 l f c M:V->y}{P:V->U}(h:oZ (λ_=>True) ws base W k3 k4 k6 k6 n c0 l)(hs:ws=i)(z:jq (RL i W c0) ws j)(x:je j W 37 9 f)(same:∀d,d≠3->d≠4->d≠5->f d=c0 d)(t3:TL j base P 22 3 1 (λ_=>-7) (f 3) D)(t4:TL j base P 86 159 2 (λ_=>-7) (f 4) s)(t5:TL j base P 87 161 4 tU (f 5) s)(t:je j LG 91 m c)(p:je j SR 81 O M)(ml:i<=LG)(Q:i<=SR):oZ (λb=>b≠LG/\b≠SR) j base W D s k6 k6 n f l:=by
 have e:=λd G H K=>same d G H K;let⟨_,E,_⟩:=h.t3;let⟨_,C,_⟩:=h.t4;let⟨_,F,_⟩:=h.t5;have row:∀{g T m c},je ws g T m c->T≠37->T≠22->T≠86->T≠87->RL i W c0 g:=λr B w q o=>⟨by have:=r.lt;omega,r.jI h.x B,E.jI r w,C.jI r q,F.jI r o⟩;have own:∀{e v k vs},lO ws base e 1 v k vs->37≠e->e≠22->e≠86->e≠87->∀g,v.ownBlock=u g->RL i W c0 g:=λr B w q o g a=>⟨by have:=(r.lt g a).2;omega,λN=>r.jI h.x B<|by rw[a,N],r.uB E w a,r.uB C q a,r.uB F o a⟩;refine⟨x,h.bW,by rw[e 1 E1 E1 E1];exact h.n1,by rw[e 2 E1 E1 E1];exact h.n2,by rw[e 8 E1 E1 E1];exact h.n8,t3.FO λg m c _ r=>⟨r.jI t,r.jI p⟩,t4.FO λg m c _ r=>⟨r.jI t,r.jI p⟩,t5.FO λg m c _ r=>⟨r.jI t,r.jI p⟩,?_,?_,?_⟩;.rw[e 6 E1 E1 E1];exact(h.t6.jh λb hb _=>⟨A,A⟩).jr z (by let⟨_,o6,_⟩:=h.t6;grind) λg T m c _ r R=>pC
 .rw[e 7 E1 E1 E1];exact(h.t7.FO λg m c _ r=>by have:=r.lt;omega).jr z (by let⟨_,S,_⟩:=h.t7;grind) λg m c _ r=>row r E1 E1 E1 E1
 .rw[e 0 E1 E1 E1];exact h.t0.jr λg a=>z.jg g (own h.t0 E1 E1 E1 E1 g a) (h.t0.lt g a).2
section
variable{P:dE}{ops:Z bY}{Q:cf->Act->ai->U}{md:Region.Mode}
def Vr(S:Act)(c:V)(O K:ai->U)(R:V->(V->y)->U)(m:∀(i:V)o,ops[i]?=u o->o.guard=X)(F:∀(i j:V)d,(ops[i]?).bind (·.dst)=u d->(ops[j]?).bind (·.dst)=u d->i=j)(hloc:∀k s s',(∀o,ops[k]?=u o->∀j,(j=k\/∃e∈o.after,de md e=ak/\e.on=j)->s j=s' j)->R k s->R k s')(hob:∀(i:V)o,i≠c->ops[i]?=u o->∀a w,O w\/K w->tj ops S a->(∀e∈o.after,de md e=ak->R e.on (ot ops a))->o.wp P a w (λr x=>x=w/\∃v,r=a.put o.dst v/\R i (ot ops r)) Q)(hcall:∀o,ops[c]?=u o->∀a w,O w->tj ops S a->(∀e∈o.after,de md e=ak->R e.on (ot ops a))->o.wp P a w (λr x=>K x/\∃v,r=a.put o.dst v/\R c (ot ops r)) Q)(hc:c<ops)(f:∀b:Z I,b=ops.size->fP md ops b=[]->∀k,k<ops.size->mi b k)(hend:∀a w,K w->tj ops S a->(∀k,k<ops.size->R k (ot ops a))->Q bH a w):∀(n:V)(b:Z I)(a:Act)(w:ai),b=ops.size->AQ b<=n->(¬mi b c->O w)->(mi b c->K w)->tj ops S a->(∀k,mi b k->R k (ot ops a))->(∀k o,ops[k]?=u o->mi b k->∀e∈o.after,de md e=ak->mi b e.on)->wpAny P md ops Q n b a w|0,b,a,w,hs,hl,h0,z,hS,N,_=>by have M:fP md ops b=[]:=NP hs A;exact⟨M,hend a w (z<|f b hs M c hc) hS λk hk=>N k (f b hs M k hk)⟩|n+1,b,a,w,hs,hl,h0,z,hS,N,hD=>by refine⟨λM=>hend a w (z<|f b hs M c hc) hS λk hk=>N k (f b hs M k hk),λi hi=>?_⟩;let⟨ac,T,p⟩:=PY hi;(have D:ops[i]?=u ops[i]:=by simp[ac]);(have t:i<b:=A);(have C:¬mi b i:=by intro W;have:=Qt T;rw[mi,this]at W;cases W);(have g:∀k,mi (dJ b i ak) k->k=i\/mi b k:=by intro k hk;by_cases e:k=i;(.exact aP e);.refine aH ?_;rw[mi,eJ,BW λh=>e h.symm]at hk;exact hk);(have l:∀k,mi b k->mi (dJ b i ak) k:=by intro k hk;rw[mi,eJ];by_cases z:i=k;(.rw[rW z,rW t]);.rw[BW z];exact hk);(have H:mi (dJ b i ak) i:=by rw[mi,eJ,rW rfl,rW t]);unfold wpOp;rw[D];simp only[];rw[rW<|by simp[Region.wanted,m i _ D]];(have ad:ops[i].wp P a w (λr x=>(¬mi (dJ b i ak) c->O x)/\(mi (dJ b i ak) c->K x)/\∃v,r=a.put ops[i].dst v/\R i (ot ops r)) Q:=by by_cases e:i=c;(.subst e;refine Oper.wp_mono ?_<|hcall _ D a w (h0 C) hS λe G E=>N _<|p _ D e G E;rintro r x⟨hF,hv⟩;exact⟨λh=>zW H h,λ_=>hF,hv⟩);. (have hF:O w\/K w:=by by_cases hl:mi b c;(.exact aH<|z hl);.exact aP<|h0 hl);refine Oper.wp_mono ?_<|hob i _ e D a w hF hS λe G E=>N _<|p _ D e G E;rintro r x⟨rfl,hv⟩;exact⟨λh=>h0 λh'=>h (l c h'),λh=>z<|(g c h).resolve_left λe'=>e e'.symm,hv⟩);refine aP<|Oper.wp_mono ?_ ad;rintro r x⟨aa,al,v,rfl,am⟩;(have q:∀k,mi b k->ot ops (a.put ops[i].dst v) k=ot ops a k:=by intro k hk;unfold ot;cases hd:(ops[k]?).bind (·.dst)with|none=>rfl|some d=>simp only[];rw[BB,BW];rintro⟨z,_⟩;have:i=k:=F i k d (by rw[D];exact z) hd;exact C<|this▸hk);refine Vr S c O K R m F hloc hob hcall hc f hend n _ _ x (by simpa using hs) ?_ aa al (hS.put D v) ?_ ?_;(.have:=Pg t T;omega);(.intro k hk;rcases g k hk with rfl|hk;(.exact am);.refine hloc k (ot ops a) _ (λo B j hj=>?_)<|N k hk;rcases hj with rfl|⟨e,G,E,rfl⟩;(.exact(q _ hk).symm);.exact(q _<|hD k o B hk e G E).symm);.intro k o B hk e G E;rcases g k hk with rfl|hk;(.exact l _<|p o B e G E);.exact l _<|hD k o B hk e G E
def Si{id:V}{w:ai}(d:Act)(c:V)(t:P.follows .mixedOrders=ak)(n:Cz ops=ak)(x:c<ops)(m g:ai->U)(R:V->(V->y)->U)(hloc:∀k s r,(∀o,ops[k]?=u o->∀j,(j=k\/∃e∈o.after,de .any e=ak/\e.on=j)->s j=r j)->R k s->R k r)(hF:m w.drew)(hob:∀(i:V)o,i≠c->ops[i]?=u o->∀a w,m w\/g w->tj ops d a->(∀e∈o.after,de .any e=ak->R e.on (ot ops a))->o.wp P a w (λf q=>q=w/\∃v,f=a.put o.dst v/\R i (ot ops f)) Q)(hcall:∀o,ops[c]?=u o->∀a w,m w->tj ops d a->(∀e∈o.after,de .any e=ak->R e.on (ot ops a))->o.wp P a w (λf q=>g q/\∃v,f=a.put o.dst v/\R c (ot ops f)) Q)(hend:∀a w,g w->tj ops d a->(∀k,k<ops.size->R k (ot ops a))->Q bH a w):(dk id ops ak).wp P Q d w:=by
 apply wp_region_any t;refine Vr (md:=.any) d c m g R (UC n) (Xy n) hloc hob hcall x (Te n) hend _ _ _ _ F0 ?_ (λ_=>hF) (λh=>?_) ⟨rfl,rfl,λ_ _=>rfl⟩ (λk hk=>?_) λk o _ hk=>?_;.unfold AQ;have:=List.countP_le_length (p:=λb=>!b) (l:=(dY ops au).toList);simpa using this
 .simp[mi,eK]at h
 .simp[mi,eK]at hk
 .simp[mi,eK]at hk
end
def Fv(i:V)(a c:V->y)(j:V):y:=if j<i*4 then a j else c j
def aar(i:V)(d c:V->y)(x0 e a b:y)(j:V):(λj=>if j=i*4+3 then b else(λj=>if j=i*4+2 then a else(λj=>if j=i*4+1 then e else(λj=>if j=i*4 then x0 else Fv i d c j) j) j) j) j=Fv (i+1) (mF (i*4) d<|lc [x0,e,a,b]) c j:=by
 simp only[Fv,mF];by_cases e3:j=i*4+3;.rw[rW e3,nD,jz,e3,show i*4+3-i*4=3 from A];rfl
 .rw[BW e3];by_cases e2:j=i*4+2;(.rw[rW e2,nD,jz,e2,show i*4+2-i*4=2 from A];rfl);.rw[BW e2];by_cases e1:j=i*4+1;(.rw[rW e1,nD,jz,e1,show i*4+1-i*4=1 from A];rfl);.rw[BW e1];by_cases e0:j=i*4;(.rw[rW e0,nD,jz,e0,show i*4-i*4=0 from A];rfl);grind
structure Sk(base W M0 LG SR k3 k4 k6 n nb nl ns N0:V)(c0 vs0 cW:V->y)(fb fs:V->Y)(ts:V->jE)(a b c:Y)(vM:L y)(px py:n6 bG)(ws w2 w:ai):U where
 r:oZ (λb=>b≠LG/\b≠SR) w base W k3 k4 k6 k6 n cW vs0
 k6:k6<=900/\n<=900
 l:∃cl,je w LG 91 ((nl+1)*4) cl
 s:je w SR 81 ((ns+1)*2)<|ld<|mD (ns*2) fs
 m:je w M0 28 6<|lc vM
 bl:ax base ws w
 lS:jq (RL M0 W c0) ws w
 mW:∀j,j≠3->j≠4->j≠5->cW j=c0 j
 jV:∀q,q<9->∀g,(cW q).ownBlock=some g->w2<=g\/(g<M0/\(c0 q).ownBlock=some g)
 xO:jq (λb=>N0<=b) w2 w
 kD:Su N0 nb nl ns fb fs ts a b c px py w2
 o1:W<M0/\M0<=LG/\LG<N0/\M0<=SR/\SR<N0/\N0<=w2/\M0<N0
 hs:ws=M0
def agP{u1 u2 u4 u5 u6 u9 iQ hW i4 iV i9 iq ir iE jt jf ip jM iR iT iH iP il jm hU i6 iM jb yn iz hQ h8 ic js jH iX ig iu jv hM ii jc iF h7 jK hO iW hX ie iO i5 i8 h9 jJ jp hT hV iD iC hP iy io hN hY ia iK iB iA jo hR ih iY jw ij iI iZ h0 iU hZ jk iG iw jx jj jD ji jC iL jn jL jN jG aV hc gi cS bB cc a1 fC e4 bm dm d8 cE dv ct dT ew gf cM hu bR eR hH gZ gm dc dj eE gE db fh be dl gK g7 bf g1 gp cv g3 er d7 hr cn d2 gH cz gl gT cb e8 aR gV hn a9 eg gF fd g8 a4 eC hw gv cK bp g5 ep g2 hh ea gQ bq gS hD e9 bc dx eo cs eT a5 em dd ei bi gq eD a8 hF gX f3 eA dq g6 bw ga ha hx en g9 cQ ce bd he gg hz da co ca eU ed c8 ht ef cR dh bx d3 df hf br gM gk d5 b8 ck gY hJ ec hy hv eW gc cB g4 d6 fe f2 hp fm f8 gu eb eq bt aW ba cu eI gI d4 gJ bX cX fv et hK hC ci gG hE b9 hA gL di gW gO dC d9 fG hG cm hI bz bM fD gR bo dr:y}(base W M0 LG SR k3 k4 k6 n nb nl ns N0:V)(c0 F cW:V->y)(fb fs:V->Y)(ts:V->jE)(a b c:Y)(v0 v1 v2 v3 v4:y)(aS:n6 bG)(pS:V)(px py:n6 bG)(ws w2 w:ai)(h:Sk base W M0 LG SR (k3+1+2*nl) (k4+nl) k6 n nb nl ns N0 c0 F cW fb fs ts a b c [v0,v1,v2,v3,v4,ae aS ns pS] px py ws w2 w)(hS:lj (λb=>b<base) w (ae aS ns pS) 2 ns fs)(jZ:nl<=250000)(kj:ns<=1048576):fQ ao (Hc 20<|JS dB) (bodyPost ao dB<|GR base W k3 k4 k6 n nb nl ns c0 F fb fs ts a b c ws) {tmps:=#[ar W,u1,u2,ar M0,u4,u5,u6,nl,ae LG (nl+1)<|nl+1,u9,iQ,hW,i4,ae SR (ns+1)<|ns+1,iV,i9,ar px,iq,ir,ar py,iE,jt,ak,jf,ip,jM,iR,iT,iH,iP,il,jm,hU,i6,iM,jb,yn,iz,hQ,h8,ic,js,jH,iX,ig,iu,jv,hM,ii,jc,iF,h7,jK,hO,iW,hX,ie,iO,i5,i8,h9,jJ,jp,hT,hV,iD,iC,hP,iy,io,hN,hY,ia,iK,iB,iA,jo,hR,ih,iY,jw,ij,iI,iZ,h0,iU,hZ,jk,iG,iw,jx,jj,jD,ji,jC,iL,jn,jL,jN,jG,aV,hc,gi,cS,bB,cc,a1,fC,e4,bm,dm,d8,cE,dv,ct,dT,ew,gf,cM,hu,bR,eR,hH,gZ,gm,dc,dj,eE,gE,db,fh,be,dl,gK,g7,bf,g1,gp,cv,g3,er,d7,hr,cn,d2,gH,cz,gl,gT,cb,e8,aR,gV,hn,a9,eg,gF,fd,g8,a4,eC,hw,gv,cK,bp,g5,ep,g2,hh,ea,gQ,bq,gS,hD,e9,bc,dx,eo,cs,eT,a5,em,dd,ei,bi,gq,eD,a8,hF,gX,f3,eA,dq,g6,bw,ga,ha,hx,en,g9,cQ,ce,bd,he,gg,hz,da,co,ca,eU,ed,c8,ht,ef,cR,dh,bx,d3,df,hf,br,gM,gk,d5,b8,ck,gY,hJ,ec,hy,hv,eW,gc,cB,g4,d6,fe,f2,hp,fm,f8,gu,eb,eq,bt,aW,ba,cu,eI,gI,d4,gJ,bX,cX,fv,et,hK,hC,ci,gG,hE,b9,hA,gL,di,gW,gO,dC,d9,fG,hG,cm,hI,bz,bM,fD,gR,bo,dr],defers:=[]} w:=by
 simp only[JS,dB,aA,Hc];let⟨cl,z⟩:=h.l;have j5:=z.lt;have j2:=h.r.bW;have kq:=h.o1;have C:base<=LG:=A
 have o:base<=SR:=A
 have ku:base<=w:=A
 go_wp2_with fail;go_loopw[24](λiv wq=>∃(i:V)(vx:V->y),i<=nl+1/\iv=i/\je wq LG 91 ((nl+1)*4) (Fv i vx cl)/\(∀k,k<i->EY (w<=·) wq vx k)/\jq (λx=>x≠LG) w wq/\ax base w wq)(λiv _=>nl+1-(aQ iv).toNat);exact⟨0,λ_=>J,j9,rfl,z.jY λj _=>(BW A).symm,λk hk=>A,mQ,jQ⟩;obtain⟨i,vx,hi,rfl,rl,tk,kl,bl⟩:=hrel;by_cases km:i<nl+1;. (have hd:decide ((i:Y)<=(nl:Y))=ak:=Fk);have aG:=rl.kr;have e0:=rl.el<|i*4;have e1:=rl.el<|i*4+1;have e2:=rl.el<|i*4+2;have e3:=rl.el<|i*4+3;have zl:=rl.lt;have ib:=kl.jB;clear h hS;go_wp2_with fail;(have bv:(wr (LG (i*4) X) (ae wr 1 1) (LG (i*4+1) X) (ae X 0 0) (LG (i*4+2) X) (ae X 0 0) (LG (i*4+3) X)<|ae X 0 0)=wr.heap.size:=F0);(have rN:je (aD (wr (LG (i*4) X) (ae wr 1 1) (LG (i*4+1) X) (ae X 0 0) (LG (i*4+2) X) (ae X 0 0) (LG (i*4+3) X)<|ae X 0 0)<|ay #[aj ah<|-7] 3) wr 3 1<|ld λ_=>-7:=by have:=lZ (wr (LG (i*4) X) (ae wr 1 1) (LG (i*4+1) X) (ae X 0 0) (LG (i*4+2) X) (ae X 0 0) (LG (i*4+3) X)<|ae X 0 0) [aj ah<|-7] 3;rw[bv]at this;exact this.jY λj hj=>by(have:j=0:=by simp at hj;omega);subst this;rfl);have rF:je (aD (wr (LG (i*4) X) (ae wr 1 1) (LG (i*4+1) X) (ae X 0 0) (LG (i*4+2) X) (ae X 0 0) (LG (i*4+3) X)<|ae X 0 0)<|ay #[aj ah<|-7] 3) LG 91 ((nl+1)*4)<|Fv (i+1) (mF (i*4) vx<|lc [ae wr 1 1,ae X 0 0,ae X 0 0,ae X 0 0]) cl:=(((((rl.jl (i*4)<|ae wr 1 1).jl (i*4+1)<|ae X 0 0).jl (i*4+2)<|ae X 0 0).jl (i*4+3)<|ae X 0 0).jY λj _=>aar i vx cl _ _ _ _ j).lP _;(have tF:∀k,k<i+1->EY (w<=·) (aD (wr (LG (i*4) X) (ae wr 1 1) (LG (i*4+1) X) (ae X 0 0) (LG (i*4+2) X) (ae X 0 0) (LG (i*4+3) X)<|ae X 0 0)<|ay #[aj ah<|-7] 3) (mF (i*4) vx<|lc [ae wr 1 1,ae X 0 0,ae X 0 0,ae X 0 0]) k:=λk hk=>by by_cases e:k<i;(.let⟨g,h1,E,h3,h4,h5,h6⟩:=tk k e;have an:g≠LG:=h6.jI rl;exact⟨g,by rw[yi _ _ _ A];exact h1,by rw[yi _ _ _ A];exact E,by rw[yi _ _ _ A];exact h3,by rw[yi _ _ _ A];exact h4,h5,((((h6.nF an _).nF an _).nF an _).nF an _).lP _⟩);. (have:k=i:=A);subst this;refine⟨wr,?_,?_,?_,?_,ib,rN⟩;(.rw[mF,jz,Nat.sub_self];rfl);(.rw[mF,jz,show k*4+1-k*4=1 from A];rfl);(.rw[mF,jz,show k*4+2-k*4=2 from A];rfl);.rw[mF,jz,show k*4+3-k*4=3 from A];rfl);have kF:jq (λx=>x≠LG) w<|aD (wr (LG (i*4) X) (ae wr 1 1) (LG (i*4+1) X) (ae X 0 0) (LG (i*4+2) X) (ae X 0 0) (LG (i*4+3) X)<|ae X 0 0)<|ay #[aj ah<|-7] 3:=((((kl.jl F0 _).jl F0 _).jl F0 _).jl F0 _).lP _;have bF:ax base w<|aD (wr (LG (i*4) X) (ae wr 1 1) (LG (i*4+1) X) (ae X 0 0) (LG (i*4+2) X) (ae X 0 0) (LG (i*4+3) X)<|ae X 0 0)<|ay #[aj ah<|-7] 3:=dD (az (az (az (az bl C _) C _) C _) C _) (by rw[bv];omega) _;go_roundw;exact⟨i+1,_,A,pR,rF,tF,kF,bF⟩;simp[aQ];omega
 . (have hd:decide ((i:Y)<=(nl:Y))=au:=Fk);(have al:i=nl+1:=A);obtain⟨wM,jF⟩:∃x,x=wr:=⟨_,rfl⟩;subst jF;have sM:je wM SR 81 ((ns+1)*2)<|ld<|mD (ns*2) fs:=h.s.jg<|kl.jg SR (h.s.jI z) h.s.lt;have mM:=h.m.jg<|kl.jg M0 (h.m.jI z) h.m.lt;have es:=hS.jr (S:=λb=>b<base) ⟨bl.size,λb hb _=>bl.block b hb⟩;obtain⟨j3,jW,e',-,ac⟩:=id es;injection e' with e1 e2 e3;subst e1 e3;(have aL:base<=wM:=by have:=h.r.x.lt;have:=kl.jB;omega);have ju:=mM.lt;clear hS es;go_wp2_with fail;clear hd;go_loopw[22,25](λok iv wq=>∃m:V,m<=ns+1/\ok=ak/\iv=m/\je wq SR 81 ((ns+1)*2) (ug (-7) m<|ld<|mD (ns*2) fs)/\jq (λb=>b≠SR) wM wq/\ax base wM wq)(λ_ iv _=>ns+1-(aQ iv).toNat);exact⟨0,j9,rfl,rfl,sM.jY λj _=>(BW A).symm,mQ,jQ⟩;obtain⟨m,hm,rfl,rfl,rg,kg,bg⟩:=hrel;have ke:=kg.jB;(have a3:aq wr (M0 5 X)=u (ae aS ns pS):=by rw[kg.jP (b:=M0) (mM.jI sM) ju];exact mM.el 5);(have kd:M0<wr:=A);have j1:=rg.lt;have kf:M0≠SR:=mM.jI sM;(have aL:base<=wr:=A);by_cases ja:m<ns+1;(.have aG:=rg.kr;by_cases gb:m<ns;(.obtain⟨bb,off,rfl,gn,j4,aa⟩:=ac A;(have j0:bb<wr:=A);(have jU:bb≠SR:=A);(have e0:aq wr (bb (off+m*2) X)=u (aj ah<|fs<|m*2):=by rw[bO bg (p:=(bb (off+m*2) X)) gn];simp_all);(have e1:aq wr (bb (off+m*2+1) X)=u (aj ah<|fs<|m*2+1):=by rw[bO bg (p:=(bb (off+m*2+1) X)) gn,cJ];exact aa _ A);(have d0:aq wr (SR (m*2) X)=u (aj ah<|fs<|m*2):=by rw[rg.el _,ug,jz,ld,mD,nD]);(have d1:aq wr (SR (m*2+1) X)=u (aj ah<|fs<|m*2+1):=by rw[rg.el _,ug,jz,ld,mD,nD]);generalize fs (m*2)=f0 at*;generalize fs (m*2+1)=f1 at*;clear aa ac h z rl tk kl bl sM mM al;go_wp2_with fail;let⟨wv,Q,O,f⟩:=Ff wr [f0,f1] 81;rw[Q];clear Q;have D0:=uJ f d0;have D1:=uJ f d1;have R0:aq wv wr=u (aj ah f0):=O.el 0;have R1:aq wv ⟨wr,1,X⟩=u (aj ah f1):=O.el 1;have G:=rg.below f;have aC:=kg.kZ f;have aB:=G6 bg f aL;have FZ:=G.kr;clear rg kg bg a3 d0 d1 aG;go_quiet(fail);go_wp2_with fail;go_roundw;exact⟨m+1,A,rfl,pR,((((G.jg rfl:je (wv.drewN _) SR 81 _ _).jl (m*2)<|aj ah<|-7).jl (m*2+1)<|aj ah<|-7)).jY λj _=>I9 _ _ _ _,((aC.DH _).jl F0 _).jl F0 _,az (az (yV aB _) o _) o _⟩;simp[aQ];omega);. (have jR:decide (m<ns)=au:=by simpa using gb);(have d0:aq wr (SR (m*2) X)=u (aj ah 0):=by rw[rg.el _,ug,jz,ld,mD,jz]);(have d1:aq wr (SR (m*2+1) X)=u (aj ah 0):=by rw[rg.el _,ug,jz,ld,mD,jz]);clear ac h z rl tk kl bl sM mM al;go_wp2_with fail;let⟨wv,Q,O,f⟩:=Ff wr [aj ah 0,aj ah 0] 81;rw[Q];clear Q;have D0:=uJ f d0;have D1:=uJ f d1;have R0:aq wv wr=u (aj ah 0):=O.el 0;have R1:aq wv ⟨wr,1,X⟩=u (aj ah 0):=O.el 1;have G:=rg.below f;have aC:=kg.kZ f;have aB:=G6 bg f aL;have FZ:=G.kr;clear rg kg bg a3 d0 d1 aG;go_quiet(fail);go_wp2_with fail;go_roundw;exact⟨m+1,A,rfl,pR,((((G.jg rfl:je (wv.drewN _) SR 81 _ _).jl (m*2)<|aj ah<|-7).jl (m*2+1)<|aj ah<|-7)).jY λj _=>I9 _ _ _ _,((aC.DH _).jl F0 _).jl F0 _,az (az (yV aB _) o _) o _⟩;simp[aQ];omega);. (have jO:decide (m<ns+1)=au:=by simpa using ja);(have kb:m=ns+1:=A);have rs:je wr SR 81 ((ns+1)*2)<|ld λ_=>-7:=rg.jY λj hj=>rW A;have i7:LG≠SR:=z.jI h.s;have a2:je wr LG 91 ((nl+1)*4)<|Fv (nl+1) vx cl:=al▸rl.jg (kg.jg LG i7 rl.lt);(have gU:∀k,k<nl+1->EY (w<=·) wr vx k:=λk hk=>by let⟨g,h1,E,h3,h4,h5,h6⟩:=tk k A;exact⟨g,h1,E,h3,h4,h5,h6.jg<|kg.jg g (h6.jI sM) h6.lt⟩);have KT:jq (λb=>b≠LG/\b≠SR) w wr:=(kl.jh λb h=>h.1).jA<|kg.jh λb h=>h.2;have bT:ax base w wr:=aE bl bg;have rR:=h.r.lh z h.s KT;have RR:=rR.jh (P':=λ_=>True) λ_ _ _=>trivial;let⟨j7,ko⟩:=h.k6;let⟨A6,C6,w6,aw,p6,R6⟩:=RR.p6 A A n7 a2 (λj hj=>by let⟨g,h1,E,h3,h4,h5,h6⟩:=gU j hj;have ad:∀q,q<4->Fv (nl+1) vx cl (j*4+q)=vx (j*4+q):=λq hq=>rW A;exact⟨g,aT (ad 0 A) h1,aT (ad 1 A) E,aT (ad 2 A) h3,aT (ad 3 A) h4,n7,h6⟩);have fW:=rs.jg<|p6.2.2.1.jg SR ⟨rs.jI RR.x,by let⟨_,ho,_⟩:=RR.t6;exact ho.jI rs⟩ rs.lt;let⟨t,v,B,am,p7,R7⟩:=R6.p7 A A o fW;have e6:cW 6=c0 6:=h.mW 6 E1 E1 E1;have e7:(jd cW 6<|ae A6 (k6+1) C6) 7=c0 7:=aT (j8 _ _ E1)<|h.mW 7 E1 E1 E1;(have e0:(jd (jd cW 6<|ae A6 (k6+1) C6) 7<|ae t (k6+1) v) 0=c0 0:=by rw[j8 _ _ E1,j8 _ _ E1];exact h.mW 0 E1 E1 E1);(have jy:(w6 (W 6 X)<|ae A6 (k6+1) C6)=w6.heap.size:=F0);(have im:(B (W 7 X)<|ae t (k6+1) v)=B.heap.size:=F0);have z6:=p6.2.2.1.jB;have z7:=p7.2.2.1.jB;have zT:=KT.jB;have zE:=h.xO.jB;have ow:=h.jV;have jS:=h.hs;(have N:∀b,b≠W->b≠LG->b≠SR->(c0 6).ownBlock≠u b->(c0 7).ownBlock≠u b->b<w.heap.size->(B (W 7 X)<|ae t (k6+1) v).heap[b]?=w.heap[b]?:=λb q1 q2 q3 q4 q5 q6=>by rw[p7.2.2.1.jg b ⟨q1,by rw[e7];exact q5⟩ A,p6.2.2.1.jg b ⟨q1,by rw[e6];exact q4⟩ A,KT.jg b ⟨q2,q3⟩ q6]);(have D:∀q,q<9->q≠0->∀g,(jd (jd cW 6<|ae A6 (k6+1) C6) 7 (ae t (k6+1) v) q).ownBlock=u g->g<M0\/w2.heap.size<=g:=λq hq ks g d=>by by_cases u7:q=7;(.rw[u7,ki]at d;rcases p7.2.2.2.2 with e|⟨b',e,fO⟩;(.rw[e,e7,<-h.mW 7 E1 E1 E1]at d;have:=ow 7 A g d;omega);.rw[e]at d;injection d with d;omega);rw[j8 _ _ u7]at d;by_cases u6:q=6;(.rw[u6,ki]at d;rcases p6.2.2.2.2 with e|⟨b',e,fO⟩;(.rw[e]at d;have:=ow 6 A g d;omega);.rw[e]at d;injection d with d;omega);rw[j8 _ _ u6]at d;have:=ow q hq g d;omega);(have o0:∀q,q<9->∀g,(c0 q).ownBlock=u g->q≠3->q≠4->q≠5->g<M0\/w2.heap.size<=g:=λq hq g d h3 h4 h5=>by rw[<-h.mW q h3 h4 h5]at d;have:=ow q hq g d;omega);(have H:∀b,RO W c0 b->b<ws.heap.size->(B (W 7 X)<|ae t (k6+1) v).heap[b]?=ws.heap[b]?:=λb⟨h1,E⟩z=>by rw[N b h1 A A (E 6 A) (E 7 A) A];exact h.lS.jg b ⟨A,h1,E 3 A,E 4 A,E 5 A⟩ z);(have av:∀b,N0<=b->b<w2.heap.size->(B (W 7 X)<|ae t (k6+1) v).heap[b]?=w2.heap[b]?:=λb h1 z=>by rw[N b A A A (λe=>by have:=o0 6 A b e A A A;omega) (λe=>by have:=o0 7 A b e A A A;omega) A];exact h.xO.jg b h1 z);have T:ax base ws<|B (W 7 X)<|ae t (k6+1) v:=aE h.bl<|aE bT<|aE p6.2.2.2.1 p7.2.2.2.1;have iN:=T.size;(obtain⟨a6,kh,iS⟩:∃a cap,cW 6=ae a k6 cap:=by let⟨_,ho,_⟩:=RR.t6;exact ho.oP);let⟨a7,jT,iJ⟩:=R6.t7.oP;let⟨a0,j6,ik⟩:=R7.t0.oP;have W6:aq wr (W 6 X)=u (cW 6):=RR.x.el _;have W7:=R6.x.el 7;have W0:=R7.x.el 0;have Q6:=p6.1;have F6:=p6.2.1;have Q7:=p7.1;have F7:=p7.2.1;have fk:=h.kD;rw[iS]at W6 aw Q6;rw[iJ]at W7 am Q7;rw[jy]at am;clear h z rl tk kl bl sM mM rg kg bg ac KT bT a2 rs gU rR RR a3 al R6 fW p6 p7 N;rcases fk with⟨ds,rfl,rfl⟩|⟨e,x,vB,vL,mO,nv,K,R,M,rfl,rfl,cg⟩;(.have fin:GR base W k3 k4 k6 n nb nl ns c0 F fb fs ts a b c ws (aX ak)<|B (W 7 X)<|ae t (k6+1) v:=⟨rfl,⟨iN,H⟩,T,_,n,F,R7,aP ⟨ds,rfl,rfl⟩⟩;clear R7 D H av T ds W0;go_wp2_with(at_builtin;first|apply BS rfl _ _ 35 rfl _ _ rfl rfl _ _ aw|apply BS rfl _ _ 31 rfl _ _ rfl rfl _ _ am);go_ret;exact fin);.have bA:ax (B (W 7 X)<|ae t (k6+1) v) (B (W 7 X)<|ae t (k6+1) v)<|aD (B (W 7 X)<|ae t (k6+1) v)<|ay #[ar e,ar x] 103:=kI;have P:=lZ (B (W 7 X)<|ae t (k6+1) v) [ar e,ar x] 103;have RA:=R7.below bA;let⟨A8,C8,w8,aI,p8,R8⟩:=RA.p0 (B (W 7 X)<|ae t (k6+1) v) A;have z8:=p8.2.2.1.jB;have zA:=bA.size;(have k8:∀b,b≠W->(c0 0).ownBlock≠u b->b<(B (W 7 X)<|ae t (k6+1) v).heap.size->(w8 W<|ae A8 (n+1) C8).heap[b]?=(B (W 7 X)<|ae t (k6+1) v).heap[b]?:=λb q1 q2 q3=>by rw[p8.2.2.1.jg b ⟨q1,by rw[e0];exact q2⟩ A,bA.block b q3]);(have fin:GR base W k3 k4 k6 n nb nl ns c0 F fb fs ts a b c ws (aX ak)<|w8 W<|ae A8 (n+1) C8:=by refine⟨rfl,⟨A,λb hb z=>by rw[k8 b hb.1 (hb.2 0 A) A];simp_all⟩,aE T<|aE (aO bA A) p8.2.2.2.1,_,n+1,_,R8,aH ⟨rfl,N0,(B (W 7 X)<|ae t (k6+1) v),e,x,vB,vL,mO,nv,K,R,M,w2,rfl,A,λq g hq d=>?_,?_,A,cg,⟨A,λb hb z=>?_⟩⟩⟩;(.by_cases u0:q=0;(.rw[u0,ki]at d;rcases p8.2.2.2.2 with e'|⟨b',e',fO⟩;(.rw[e',e0]at d;have:=o0 0 A g d A A A;omega);.rw[e']at d;injection d with d;omega);rw[j8 _ _ u0]at d;have:=D q hq u0 g d;omega);(.exact P.jg<|p8.2.2.1.jg _ ⟨P.jI RA.x,RA.t0.jI P⟩ P.lt);.rw[k8 b A (λe'=>by have:=o0 0 A b e' A A A;omega) A];simp_all);have Q8:=p8.1;have F8:=p8.2.1;have jX:=R7.x.lt;rw[ik]at W0 aI Q8;simp only[fS,im]at aI;clear R7 RA R8 D H av T k8 p8 P bA cg;go_wp2_with(at_builtin;first|apply BS rfl _ _ 35 rfl _ _ rfl rfl _ _ aw|apply BS rfl _ _ 31 rfl _ _ rfl rfl _ _ am|apply BS rfl _ _ 30 rfl _ _ rfl rfl _ _ aI);go_ret;exact fin
def N7(t e:aY)(h:cZ ao t=u (.slice e))(w:ai):(binOp .neq t jw jw).run ao w=.ok au w:=by simp only[binOp];simp[Op.equal,Op.maxDepth,Lib.run_equalIn_slice_nil w 9999 t e X 0 0 0 0 h]
structure Sf(p:U):U where
 kD:p
def QR(W a LG c b off nl m e i:V)(n h j g x0 l f d t0 t1 t2 t3:y)(k:V)(s:V->y):U:=match k with|0=>s 0=ar W|1=>s 1=ae a nl m|2=>s 2=i|3=>s 3=ar (a (0+i*4) X)|4=>s 4=aM #[n,h,j,g]|5=>s 5=ae LG (nl+1) (nl+1)|6=>s 6=i|7=>s 7=ar (LG (0+i*4) X)|8=>s 8=aM #[x0,l,f,d]|9=>s 9=ar (c 4 X)|10=>s 10=ae (b off X) nl e|11=>s 11=i|12=>s 12=ar (b (off+i*4) X)|13=>s 13=aM #[t0,t1,t2,t3]|14=>s 14=ak|15=>s 15=ak|_=>True
structure UF(base W M0 BR CB LG SR k3 k4 k6 n nb nl ns:V)(c0 vs0:V->y)(fb fs:V->Y)(ts:V->jE)(a b c:Y)(aB aL aS bB bL bS:n6 bG)(pB pL pS cB:V)(gl:y)(vu vx:V->y)(lo hi:V->V)(ws wL w:ai):U where
 r0:oZ (λ_=>True) ws base W k3 k4 k6 k6 n c0 vs0
 hs:ws=M0
 kk:k3+2*nl<=900000/\k4+nl<=900000/\k6<=900/\n<=900
 m:je w M0 28 6<|lc [ae aB nb pB,a,b,c,ae aL nl pL,ae aS ns pS]
 rB:je w BR 3 (nb+1)<|ld<|mD nb fb
 rC:je w CB 24 4<|lc [ae bB nb cB,a,b,c]
 eB:bB=BR\/nb=0
 I:zu wL w LG nl nl ts gl vu vx lo hi
 eL:bL=LG\/nl=0
 rS:je w SR 81 ((ns+1)*2)<|ld<|mD (ns*2) fs
 eS:bS=SR\/ns=0
 bl:ax M0 ws w
 hB:lj (λb=>b<base) w (ae aB nb pB) 1 nb fb
 hL:oU (λb=>b<base) w (ae aL nl pL) nl ts
 hS:lj (λb=>b<base) w (ae aS ns pS) 2 ns fs
 o1:BR<wL/\LG<wL/\M0<wL/\M0<=BR/\M0<=LG/\M0<=SR
 sz:wL<=w.heap.size
 oS:(∀k,k<nl->hi k<=SR)/\SR<w
def aei{u1 u2 u4 kZ ju ja kT jT jC kR jS k7 kG lf ji lA jG iZ ko ke kL i4 kC iQ kh ks yn jo iY jw kM i7 ln kv jt kQ iX iT jH kW jW jj lx kr jL kA js jv kF kJ jx kq i6 jm i8 jQ jN kl jU jP lj jb jl kf jO ly k8 i5 jF kz k9 jc j7 kB jf k0 ku kS jX kK ld kY kj kO lh kd kU lz lC kg fO ih gM da iI b9 ga gi hG hm ds ea cE hA cu dT eR gK cm iy gV cl e7 hW gT dh dm fd g7 dd hK gU dq hp ia gY hX gW cz h4 eC d9 ir co d4 hh gE gS hM b8 fC eU eq eA gv em g9 fG ib gg e4 ic g4 io hN h8 bA hZ en ec hC ij hJ iF fD fv dx g6 ct cK fW ep dr eo g8 gX ce gq iH hU gp eW dv h9 iw gH ie iB es hj cX ca gR ii gL iD cM cs bT fk eg dc iu ei c8 dj fe d5 eI ik gb hv gQ d7 bM ck hV iM ef iC iz fm gJ di h5 d8 hO gn iq gc gu gZ ed ew im f8 gG h7 cg et d6 cQ bF db gf bX iP iE ci hf iG bR iA hu dl hQ hy dC eb gl iL cn iK iJ iO gk hD hw eT:y}(base W M0 BR CB LG SR k3 k4 k6 n nb nl ns:V)(c0 av:V->y)(fb fs:V->Y)(ts:V->jE)(a b c:Y)(aB aL aS bB bL bS aG:n6 bG)(pB pL pS cB cL cS pG:V)(vu vx:V->y)(lo hi:V->V)(ws wL w:ai)(h:UF base W M0 BR CB LG SR k3 k4 k6 n nb nl ns c0 av fb fs ts a b c aB aL aS bB bL bS pB pL pS cB (ae aG nl pG) vu vx lo hi ws wL w)(jp:nb<=1048576)(jZ:nl<=250000)(ls:ns<=1048576)(sm:∀i,i<nl->Small (ts i))(jD:∀j,j<ns->(cD ah<|fs<|2*j+1).wf=ak):fQ ao (Hc 15<|JS dB) (bodyPost ao dB<|GR base W k3 k4 k6 n nb nl ns c0 av fb fs ts a b c ws) {tmps:=#[ar W,u1,u2,ar M0,u4,ae BR (nb+1)<|nb+1,ar CB,nl,ae LG (nl+1)<|nl+1,ae aG nl pG,kZ,ju,ja,ae SR (ns+1)<|ns+1,ae bL nl cL,ae bS ns cS,kT,jT,jC,kR,jS,k7,kG,lf,ji,lA,jG,iZ,ko,ke,kL,i4,kC,iQ,kh,ks,yn,jo,iY,jw,kM,i7,ln,kv,jt,kQ,iX,iT,jH,kW,jW,jj,lx,kr,jL,kA,js,jv,kF,kJ,jx,kq,i6,jm,i8,jQ,jN,kl,jU,jP,lj,jb,jl,kf,jO,ly,k8,i5,jF,kz,k9,jc,j7,kB,jf,k0,ku,kS,jX,kK,ld,kY,kj,kO,lh,kd,kU,lz,lC,kg,fO,ih,gM,da,iI,b9,ga,gi,hG,hm,ds,ea,cE,hA,cu,dT,eR,gK,cm,iy,gV,cl,e7,hW,gT,dh,dm,fd,g7,dd,hK,gU,dq,hp,ia,gY,hX,gW,cz,h4,eC,d9,ir,co,d4,hh,gE,gS,hM,b8,fC,eU,eq,eA,gv,em,g9,fG,ib,gg,e4,ic,g4,io,hN,h8,bA,hZ,en,ec,hC,ij,hJ,iF,fD,fv,dx,g6,ct,cK,fW,ep,dr,eo,g8,gX,ce,gq,iH,hU,gp,eW,dv,h9,iw,gH,ie,iB,es,hj,cX,ca,gR,ii,gL,iD,cM,cs,bT,fk,eg,dc,iu,ei,c8,dj,fe,d5,eI,ik,gb,hv,gQ,d7,bM,ck,hV,iM,ef,iC,iz,fm,gJ,di,h5,d8,hO,gn,iq,gc,gu,gZ,ed,ew,im,f8,gG,h7,cg,et,d6,cQ,bF,db,gf,bX,iP,iE,ci,hf,iG,bR,iA,hu,dl,hQ,hy,dC,eb,gl,iL,cn,iK,iJ,iO,gk,hD,hw,eT],defers:=[]} w:=by
 simp only[JS,dB,aA,Hc];obtain⟨i0,i1,i2,i3⟩:=tO h.rC;go_wp2_with fail;refine aF (afq _ _ _ a b c nb fb nl ts ns fs w (GP (h.rB.jY λj _=>by rw[fL]) A A h.eB) (h.I.rd A sm h.eL) (GP h.rS A A h.eS) jD) ?_;rintro r w1⟨px,rfl,b1,gI⟩;have m1:=h.m.below b1;obtain⟨j0,j1,j2,j3,j4,j5⟩:=Io m1;clear i0 i1 i2 i3;go_wp2_with fail;refine aF (ajP _ _ _ a b c nb fb nl ts ns fs w1 (h.hB.rd.below b1) (h.hL.rd.below b1)<|h.hS.rd.below b1) ?_;rintro r H⟨py,rfl,b2,bv⟩;generalize((mh nb fb a b c nl ts ns fs).1:V)=n1 at*;generalize((mh nb fb a b c nl ts ns fs).2:V)=n2 at*;have C:ax w w H:=aE b1<|aO b2 b1.size;have hE:Su w nb nl ns fb fs ts a b c px py H:=by rcases gI with⟨hn,rfl⟩|⟨hz,e,mO,nv,K,R,M,rfl,he⟩;(.rcases bv with⟨_,rfl⟩|⟨hz,_⟩;(.exact aP ⟨hn,rfl,rfl⟩);.exact zW hz hn);.rcases bv with⟨hn,_⟩|⟨_,x,iS,lq,rfl,hx,iU⟩;(.exact zW hz hn);.exact aH ⟨e,x,mO,nv,iS,lq,K,R,M,rfl,rfl,hz,w1,he,b2,hx,iU⟩
 have be:px.isNone=py.isNone:=by rcases hE with⟨_,rfl,rfl⟩|⟨e,x,_,_,_,_,_,_,_,rfl,rfl,_⟩<;>rfl
 have kX:=λw=>ajj px w;have cb:=λw=>agz py w;rw[<-be]at cb;generalize px.isNone=ip at*;have I2:=h.I.below C;have g0:aq H (LG (nl*4) X)=u (ae X 0 0):=by rw[I2.l.el _,zK,jz]
 have g1:aq H (LG (nl*4+1) X)=u (ae X 0 0):=by rw[I2.l.el _,zK,jz]
 have g2:aq H (LG (nl*4+2) X)=u (ae X 0 0):=by rw[I2.l.el _,zK,jz]
 have g3:aq H (LG (nl*4+3) X)=u (ae X 0 0):=by rw[I2.l.el _,zK,jz]
 have p0:aq H M0=u (ae aB nb pB):=(h.m.below C).el 0;have aw:=λw=>N7 22 _ dI w;have li:=λw=>N7 86 _ fE w;have iV:=λw=>N7 87 _ fF w;clear j0 j1 j2 j3 j4 j5 m1 gI bv;go_wp2_with fail;have am:=h.hs;have r2:=h.r0.below<|aE (am▸h.bl)<|aO C (by have:=h.bl.size;omega);have cv:=h.hB.jr<|jq.km C;have eD:=h.hL.jr<|jq.km C;have kE:=h.hS.jr<|jq.km C;let⟨lP,lw,ky,lK,bx,bz⟩:=h.o1;have lO:=h.r0.x.lt;have il:=h.r0.bW;have fh:=h.kk;have o0:=h.r0.Rc;refine aF (Qv W BR nb k3 base (·<M0) c0 fb _ H r2.x ((h.r0.t3.FO (P':=(·<M0)) λg m c _ r=>by have:=r.lt;omega).below (aE (am▸h.bl)<|aO C<|by have:=h.bl.size;omega)) A il A A (h.rB.below C) jp cv) ?_;rintro r w3⟨rfl,v3,er,CW,ac,hH,bf⟩;have lF:=C.size;have lT:=h.sz;have an:=h.rB.below C;let⟨_,al,_⟩:=r2.t3;have kk:∀g T m cc,je H g T m cc->T≠37->T≠22->(T≠3\/g≠BR)->je w3 g T m cc:=λg T m cc hr hT jk E=>hr.jg<|ac.jg g ⟨hr.jI r2.x hT,λe=>by rcases E with h1|h1;(.exact hr.jI an h1 e);.exact h1 e,al.jI hr jk⟩ hr.lt;have tk:∀{e T sz f v k},37≠e->3≠e->e≠22->T≠37->T≠3->T≠22->TL ws base (λ_=>True) e T sz f v k->TL w3 base (·<wL) e T sz f v k:=λa1 a2 a3 a4 a5 a6 ht=>by have df:=(ht.FO (P':=(·<wL)) λg m c _ r=>by have:=r.lt;omega).below<|aE (am▸h.bl)<|aO C (by have:=h.bl.size;omega);exact df.jr ac (λg E=>by let⟨_,z,_⟩:=df;exact⟨λe'=>z.jI r2.x a1<|by rw[E,e'],λe'=>z.jI an a2<|by rw[E,e'],z.uB al a3 E⟩) λg m c _ hr=>⟨hr.jI r2.x a4,hr.jI an a5,al.jI hr a6⟩
 have kx:=h.I;have L0:Aa base W M0 LG SR k3 k4 nl ns w c0 fs ts [ae aB nb pB,a,b,c,ae aL nl pL,ae aS ns pS] (ae aG nl pG) vu vx lo hi H wL 0 wL (jd c0 3 v3) w3:=by refine⟨er,λj h3 _ _=>j8 _ _ h3,by rw[ki];exact CW.jh λb F=>by rcases F with F|F<;>omega,by rw[j8 _ _ E1];exact tk E1 E1 E1 E1 E1 E1 h.r0.t4,by rw[j8 _ _ E1];exact tk E1 E1 E1 E1 E1 E1 h.r0.t5,λk _ hk=>(h.I.up k hk).1,⟨A,h.sz⟩,?_,kk _ _ _ _ I2.l E1 E1<|aP E1,λk _ hk=>?_,kk _ _ _ _ (h.rS.below C) E1 E1<|aP E1,kk _ _ _ _ (h.m.below C) E1 E1<|aP E1,hH,ac.jh λb F=>⟨F.2.1,by have:=F.1;omega,F.2.2.1⟩,ac.jh λb F=>⟨A,A,λe=>by have:=o0 3 A b e;omega⟩,λq hq g E=>?_⟩;(.exact I2.g.jr λg E=>ac.jg g ⟨λe=>I2.g.jI r2.x E1<|by rw[E,e],λe=>I2.g.jI an E1<|by rw[E,e],I2.g.uB al E1 E⟩ (I2.g.lt g E).2);(.refine(I2.at_ k hk).jr ac λg T m cc h1 h2 hr hT=>⟨hr.jI r2.x<|by rcases hT with rfl|rfl|rfl<;>decide,?_,al.jI hr<|by rcases hT with rfl|rfl|rfl<;>decide⟩;have:=(h.I.up k hk).1;omega);.by_cases e3:q=3;(.subst e3;rw[ki]at E;rcases bf with e|⟨b',e,lQ⟩;(.rw[e]at E;exact aH ⟨by have:=o0 3 A g E;omega,E⟩);.rw[e]at E;injection E with E;exact aP A);.rw[j8 _ _ e3]at E;exact aH ⟨by have:=o0 q A g E;omega,E⟩
 have HL:TM base W M0 LG SR nl w (ae aG nl pG) lo hi H wL:=⟨A,ky,⟨lw,bx⟩,h.oS.1,⟨h.oS.2,bz⟩,λk hk=>h.I.up k hk,h.I.uo,h.I.go,λg E=>(h.I.g.lt g E).2,A,⟨C.size,h.sz⟩⟩;have hP:jq (RL M0 W c0) ws H:=⟨by have:=h.bl.size;omega,λb F hl=>by rw[C.block b<|by have:=h.bl.size;omega,h.bl.block b F.1]⟩;have kN:=h.r0;have jM:ax base ws H:=aE (aO h.bl A)<|aO C A;clear g0 g1 g2 g3 p0 kX cb aw li iV CW ac hH bf er kk tk I2 kx cv an C b1 b2 be al r2 h;go_wp2_with fail;rename_i K0 eE;have lm:Sf _:=⟨eE⟩;clear eE;go_loopw[22,23](λok iv B=>∃(i Lb:V)(cW:V->y),i<=nl/\ok=ak/\iv=i/\Aa base W M0 LG SR k3 k4 nl ns w c0 fs ts [ae aB nb pB,a,b,c,ae aL nl pL,ae aS ns pS] (ae aG nl pG) vu vx lo hi H wL i Lb cW B)(λ_ iv _=>nl-(aQ iv).toNat);exact⟨0,_,_,j9,rfl,rfl,L0⟩;obtain⟨i,Lb,cW,lU,rfl,rfl,G⟩:=hrel;by_cases aa:i<nl;.obtain⟨GB,lG,iW,lJ,_,lH,_⟩:=G.g.at A;injection iW with e1 _ e3;subst e1 e3;obtain⟨lN,lR,jy,-,ig⟩:=id eD;injection jy with e1 _ e3;subst e1 e3;obtain⟨bb,off,rfl,jJ,lV,vs,ad,gm⟩:=ig A;(have j6:∀B,ax base H B->base<=B:=λB hq=>by have:=hq.size;omega);(have Q:∀(j gF:V)(N:V->y)(B:ai),Aa base W M0 LG SR k3 k4 nl ns w c0 fs ts [ae aB nb pB,a,b,c,ae (bb off X) nl pL,ae aS ns pS] (ae GB nl pG) vu vx lo hi H wL j gF N B->(aq B (GB (0+i*4) X)=u (vu<|i*4)/\aq B (GB (0+i*4+1) X)=u (vu<|i*4+1)/\aq B (GB (0+i*4+2) X)=u (vu<|i*4+2)/\aq B (GB (0+i*4+3) X)=u (vu<|i*4+3))/\(aq B (LG (0+i*4) X)=u (vx<|i*4)/\aq B (LG (0+i*4+1) X)=u (vx<|i*4+1)/\aq B (LG (0+i*4+2) X)=u (vx<|i*4+2)/\aq B (LG (0+i*4+3) X)=u (vx<|i*4+3))/\(aq B (bb (off+i*4) X)=u (vs<|i*4)/\aq B (bb (off+i*4+1) X)=u (vs<|i*4+1)/\aq B (bb (off+i*4+2) X)=u (vs<|i*4+2)/\aq B (bb (off+i*4+3) X)=u (vs<|i*4+3))/\aq B (M0 4 X)=u (ae (bb off X) nl pL):=λj gF N B hq=>by obtain⟨lL,lI,i9,_,_,_,hc⟩:=hq.g.at A;injection i9 with e1 _ _;injection e1 with e1;injection e1 with e1 _ _;subst e1;(have hl:∀q,q<4->aq B (LG (0+i*4+q) X)=u (vx<|i*4+q):=λq hY=>by rw[bV,hq.l.el _,zK,nD]);(have E:∀q,q<4->aq B (GB (0+i*4+q) X)=u (vu<|i*4+q):=λq hY=>by rw[bV];exact hc _ A);(have F:∀q,q<4->aq B (bb (off+i*4+q) X)=u (vs<|i*4+q):=λq hY=>by rw[bO hq.bl (p:=(bb (off+i*4+q) X)) jJ,cJ];exact ad _ A);exact⟨⟨E 0 A,E 1 A,E 2 A,E 3 A⟩,⟨hl 0 A,hl 1 A,hl 2 A,hl 3 A⟩,⟨F 0 A,F 1 A,F 2 A,F 3 A⟩,hq.m.el 4⟩);go_wp2_with fail;rename_i K1 cR iR iN;clear iR iN;refine Si (P:=ao) _ 14 agp vI F0 (λB=>Aa base W M0 LG SR k3 k4 nl ns w c0 fs ts [ae aB nb pB,a,b,c,ae (bb off X) nl pL,ae aS ns pS] (ae GB nl pG) vu vx lo hi H wL i Lb cW B) (λB=>∃N,Aa base W M0 LG SR k3 k4 nl ns w c0 fs ts [ae aB nb pB,a,b,c,ae (bb off X) nl pL,ae aS ns pS] (ae GB nl pG) vu vx lo hi H wL (i+1) (hi i) N B) (QR W GB LG M0 bb off nl pG pL i (vu<|i*4) (vu<|i*4+1) (vu<|i*4+2) (vu<|i*4+3) (vx<|i*4) (vx<|i*4+1) (vx<|i*4+2) (vx<|i*4+3) (vs<|i*4) (vs<|i*4+1) (vs<|i*4+2)<|vs<|i*4+3) ?hloc ?hF ?hob ?hcall ?hend;(case hF=>exact G.below lD<|j6 _ G.bl);(case hloc=>intro k s s' hs O;match k,hs,O with|0,hs,O|1,hs,O|2,hs,O|3,hs,O|4,hs,O|5,hs,O|6,hs,O|7,hs,O|8,hs,O|9,hs,O|10,hs,O|11,hs,O|12,hs,O|13,hs,O|14,hs,O|15,hs,O=>simp only[QR]at O⊢;rw[<-hs _ rfl _<|aP rfl];exact O|_+16,hs,O=>trivial);(case hob=>intro k o bt z a B hF hS d;have D:a.tmps.size=279:=hS.jB;have e0:a.eval (bj 0)=ar W:=hS.kD 0 qO;have e9:a.eval (bj 9)=ae GB nl pG:=hS.kD 9 qO;have bp:a.eval (bj 23)=i:=hS.kD 23 qO;have e8:a.eval (bj 8)=ae LG (nl+1) (nl+1):=hS.kD 8 qO;have e3:a.eval (bj 3)=ar M0:=hS.kD 3 qO;have kI:_:=hF.elim (Q i Lb cW B) λ⟨N,h'⟩=>Q (i+1) (hi i) N B h';let⟨⟨a0,a1,a2,a3⟩,⟨d0,d1,d2,d3⟩,⟨f0,f1,f2,f3⟩,m4⟩:=kI;match k,bt,z,d with|0,_,z,d=>obtain rfl:=bE<|show u _=u o from z;exact mZ (xk e0) ⟨rfl,_,rfl,nu _<|by rw[D];decide⟩|1,_,z,d=>obtain rfl:=bE<|show u _=u o from z;exact mZ (xk e9) ⟨rfl,_,rfl,nu _<|by rw[D];decide⟩|2,_,z,d=>obtain rfl:=bE<|show u _=u o from z;exact mZ (xk bp) ⟨rfl,_,rfl,nu _<|by rw[D];decide⟩|3,_,z,d=>obtain rfl:=bE<|show u _=u o from z;exact mZ (akl aa A (d ⟨1,bP⟩ F0 rfl)<|d ⟨2,bP⟩ F0 rfl) ⟨rfl,_,rfl,nu _<|by rw[D];decide⟩|4,_,z,d=>obtain rfl:=bE<|show u _=u o from z;exact mZ (aeq (d ⟨3,bP⟩ F0 rfl) a0 a1 a2 a3) ⟨rfl,_,rfl,nu _<|by rw[D];decide⟩|5,_,z,d=>obtain rfl:=bE<|show u _=u o from z;exact mZ (xk e8) ⟨rfl,_,rfl,nu _<|by rw[D];decide⟩|6,_,z,d=>obtain rfl:=bE<|show u _=u o from z;exact mZ (xk bp) ⟨rfl,_,rfl,nu _<|by rw[D];decide⟩|7,_,z,d=>obtain rfl:=bE<|show u _=u o from z;exact mZ (Ud A A (d ⟨5,bP⟩ F0 rfl)<|d ⟨6,bP⟩ F0 rfl) ⟨rfl,_,rfl,nu _<|by rw[D];decide⟩|8,_,z,d=>obtain rfl:=bE<|show u _=u o from z;exact mZ (UU (d ⟨7,bP⟩ F0 rfl) d0 d1 d2 d3) ⟨rfl,_,rfl,nu _<|by rw[D];decide⟩|9,_,z,d=>obtain rfl:=bE<|show u _=u o from z;exact mZ (aky e3) ⟨rfl,_,rfl,nu _<|by rw[D];decide⟩|10,_,z,d=>obtain rfl:=bE<|show u _=u o from z;exact mZ (ans (d ⟨9,bP⟩ F0 rfl) m4) ⟨rfl,_,rfl,nu _<|by rw[D];decide⟩|11,_,z,d=>obtain rfl:=bE<|show u _=u o from z;exact mZ (xk bp) ⟨rfl,_,rfl,nu _<|by rw[D];decide⟩|12,_,z,d=>obtain rfl:=bE<|show u _=u o from z;exact mZ (Ud aa A (d ⟨10,bP⟩ F0 rfl)<|d ⟨11,bP⟩ F0 rfl) ⟨rfl,_,rfl,nu _<|by rw[D];decide⟩|13,_,z,d=>obtain rfl:=bE<|show u _=u o from z;exact mZ (UU (d ⟨12,bP⟩ F0 rfl) f0 f1 f2 f3) ⟨rfl,_,rfl,nu _<|by rw[D];decide⟩|14,bt,_,_=>exact zW rfl bt|15,_,z,d=>obtain rfl:=bE<|show u _=u o from z;exact mZ (GY<|d ⟨14,bP⟩ F0 rfl) ⟨rfl,_,rfl,nu _<|by rw[D];decide⟩|n+16,_,z,d=>simp at z);(case hcall=>intro o z a B hF hS d;have D:a.tmps.size=279:=hS.jB;obtain rfl:=bE<|show u _=u o from z;have s0:=d ⟨0,bP⟩ F0 rfl;have s4:=d ⟨4,bP⟩ F0 rfl;have s8:=d ⟨8,bP⟩ F0 rfl;have gO:=d ⟨13,bP⟩ F0 rfl;have lu:uM (λb=>b<base) B (vs<|i*4) (vs<|i*4+1) (vs<|i*4+2) (vs<|i*4+3)<|ts i:=(gm i aa).jr ⟨hF.bl.size,λb F _=>hF.bl.block b F⟩;obtain⟨g2,g5,kV,jR,b0,b1,b2,b3,c0,c1,c2,c3,⟨h0,h1,h2,h3⟩,⟨y0,y1,y2,y3⟩,hl,kH,⟨r2,r5,oE,tz⟩,-⟩:=hF.at_ i jK aa;simp only[QR]at s0 s4 s8 gO;rw[h0,h1,h2,h3]at s4;rw[y0,y1,y2,y3]at s8;have bq:=hF.lb i jK aa;have lM:=HL.up i aa;refine yP (YU s0 s4 s8 gO) (aeV W base (lo i) (hi i) (k3+1+2*i) (k4+i) g2 g5 kV jR cW (ts i) _ _ _ _ b0 b1 b2 b3 c0 c1 c2 c3 B hF.x il A (hF.t3.jh λb F=>aN F bq) (hF.t4.jh λb F=>aN F bq) (hF.t5.jh λb F=>aN F bq) A A hl.1 hl.2.1 hl.2.2.1 hl.2.2.2 kH r2 r5 oE tz lu<|sm i aa) ?_;rintro r w'⟨rfl,N,x',bw,T3,T4,T5,kp,bl,own⟩;exact⟨_,rfl,⟨N,hF.mq HL aa x' bw T3 T4 T5 kp bl own⟩,_,rfl,nu _<|by rw[D];decide⟩);case hend=>intro a B hF hS t;have ha:=Nt [176,177,178,179,180,181,182,183,184,185,186,187,188,189,190,22] hS NJ;have a7:a 176 J=_:=t 0 F0;have aV:a 177 J=_:=t 1 F0;have bg:a 178 J=_:=t 2 F0;have bi:a 179 J=_:=t 3 F0;have bo:a 180 J=_:=t 4 F0;have aC:a 181 J=_:=t 5 F0;have aR:a 182 J=_:=t 6 F0;have bd:a 183 J=_:=t 7 F0;have aI:a 184 J=_:=t 8 F0;have bc:a 185 J=_:=t 9 F0;have ba:a 186 J=_:=t 10 F0;have aW:a 187 J=_:=t 11 F0;have a9:a 188 J=_:=t 12 F0;have bm:a 189 J=_:=t 13 F0;have a8:a 190 J=_:=t 14 F0;have aw:a 22 J=_:=t 15 F0;simp only[yz,dK]at ha;rw[a7,aV,bg,bi,bo,aC,aR,bd,aI,bc,ba,aW,a9,bm,a8,aw]at ha;clear a7 aV bg bi bo aC aR bd aI bc ba aW a9 bm a8 aw t hS;simp only[cr,cN,cO,cT]at ha;subst ha;refine cR _ _ ?_;clear cR;(have h6:∃(k Lb:V)(cW:V->y),k<=nl/\bD ak=ak/\aj ah ((i:Y)+1)=k/\Aa base W M0 LG SR k3 k4 nl ns w c0 fs ts [ae aB nb pB,a,b,c,ae (bb off X) nl pL,ae aS ns pS] (ae GB nl pG) vu vx lo hi H wL k Lb cW B:=by let⟨N,h'⟩:=hF;exact⟨i+1,_,N,A,rfl,rfl,h'⟩);clear hF Q G ad gm ig;go_wp2_with fail;go_roundw;exact h6;simp[aQ];omega
 . (have lE:decide (i<nl)=au:=by simpa using aa);(have jn:i=nl:=A);subst jn;have br:Sk base W M0 LG SR (k3+1+2*i) (k4+i) k6 n nb i ns w c0 av cW fb fs ts a b c [ae aB nb pB,a,b,c,ae aL i pL,ae aS ns pS] px py ws H wr:=⟨kN.loop am (hP.jA G.lS) G.x G.mW G.t3 G.t4 G.t5 G.l G.s bx bz,⟨fh.2.2.1,fh.2.2.2⟩,⟨_,G.l⟩,G.s,G.m,aE jM G.bl,hP.jA G.lS,G.mW,λq hq g E=>by by_cases e:q=3\/q=4\/q=5;(.exact G.jV q e g E);.rw[G.mW q A A A]at E;exact aH ⟨by have:=o0 q hq g E;omega,E⟩,G.xO,hE,⟨A,bx,A,bz,HL.sN.1,HL.n.1,A⟩,am⟩;have kb:=kE.jr (S:=λb=>b<base) (w':=wr) ⟨G.bl.size,λb F _=>G.bl.block b F⟩;clear G L0 HL eD;go_wp2_with fail;exact lm.kD _ _<|agP base W M0 LG SR k3 k4 k6 n nb i ns w c0 av cW fb fs ts a b c _ _ _ _ _ aS pS px py ws H wr br kb jZ ls
structure DO(w wL wq:ai)(M0 BR CB nb:V)(fb:V->Y)(vM vC:L y):U where
 m:je wq M0 28 6<|lc vM
 b:je wq BR 3 (nb+1)<|ld<|mD nb fb
 c:je wq CB 24 4<|lc vC
 bl:ax M0 w wq
 sz:wL<=wq.heap.size
def DO.below{w w':ai}{d e f nb:V}{fb:V->Y}(h:DO w j l d e f nb fb o t)(a:ax l l w')(g:d<=j):DO w j w' d e f nb fb o t:=⟨h.m.below a,h.b.below a,h.c.below a,aE h.bl<|aO a<|bh g h.sz,bh h.sz a.size⟩
def DO.jr{w w':ai}{a d e nb:V}{fb:V->Y}{S:V->U}(h:DO w j l a d e nb fb o t)(hk:jq S l w')(f:ax a l w')(hS:∀b T m c,b=a\/b=d\/b=e->T=28\/T=3\/T=24->je l b T m c->S b):DO w j w' a d e nb fb o t:=⟨h.m.jg<|hk.jg _ (hS _ _ _ _ (aP rfl) (aP rfl) h.m) h.m.lt,h.b.jg<|hk.jg _ (hS _ _ _ _ (aH<|aP rfl) (aH<|aP rfl) h.b) h.b.lt,h.c.jg<|hk.jg _ (hS _ _ _ _ (aH<|aH rfl) (aH<|aH rfl) h.c) h.c.lt,aE h.bl f,bh h.sz hk.jB⟩
def Uh(W base k3 k4 k6 n nb nl ns:V)(c0 aI:V->y)(fb fs:V->Y)(ts:V->jE)(a b c:Y)(vB vL vS:y)(w:ai)(hR:oZ (λ_=>True) w base W k3 k4 k6 k6 n c0 aI)(cK:k3+2*nl<=900000/\k4+nl<=900000/\k6<=900/\n<=900)(hB:lj (λb=>b<base) w vB 1 nb fb)(hL:oU (λb=>b<base) w vL nl ts)(hS:lj (λb=>b<base) w vS 2 ns fs)(cs:nb<=1048576)(ct:nl<=250000)(cv:ns<=1048576)(sm:∀i,i<nl->Small (ts i))(aw:∀j,j<ns->(cD ah<|fs<|2*j+1).wf=ak):aZ ao 12 #[ar W,aM #[vB,a,b,c,vL,vS]] w<|GR base W k3 k4 k6 n nb nl ns c0 aI fb fs ts a b c w:=by
 obtain⟨aB,pB,rfl,-,cb⟩:=id hB;obtain⟨aL,pL,rfl,-,ba⟩:=id hL;obtain⟨R,pS,rfl,-,bp⟩:=id hS;go_enter Tryz.func12,Tryz.ntmps12;go_wp2_with fail;obtain⟨w0,e0,rM,bM⟩:=Ff w [ae aB nb pB,a,b,c,ae aL nl pL,ae R ns pS] 28;rw[e0];clear e0;refine aF (QH _ nb fb w0<|hB.rd.below bM) ?_;rintro r w1⟨rfl,rB,cQ,b1⟩;have G:=rM.below b1;obtain⟨k0,k1,k2,k3,k4,-⟩:=Io G;have zM:=G.lt;obtain⟨ML,a8,bv⟩:=Dg (P:=ao) 25 91 _ 4 96 dQ Tryz.Qh (nl+1) A (by unfold maxLen;omega) (λ_=>ae X 0 0) (λj _=>by(have:j%4=0\/j%4=1\/j%4=2\/j%4=3:=A);rcases this with e|e|e|e<;>simp[fT,e]);clear cQ;have ea:w≠w1.heap.size:=A
 have A0:∀x,aq (aD w1 x) w=u (ae aB nb pB):=λx=>by rw[fU _ _ _<|by exact zM];exact k0
 have A4:∀x,aq (aD w1 x) ⟨w,4,X⟩=u (ae aL nl pL):=λx=>by rw[fU _ _ _<|by exact zM];exact k4
 simp only[Int.natCast_add,Int.cast_ofNat_Int]at a8;have a9:ax w w w1:=aE bM<|aO b1 bM.size;have bL:ax w1 w1<|aD (aD w1<|ay #[ae w0 nb<|nb+1,a,b,c] 24)<|ay ML 91:=yB;have be:ax w w<|aD (aD w1<|ay #[ae w0 nb<|nb+1,a,b,c] 24)<|ay ML 91:=aE a9<|aO bL a9.size;have rL:je (aD (aD w1<|ay #[ae w0 nb<|nb+1,a,b,c] 24)<|ay ML 91) (w1.heap.size+1) 91 ((nl+1)*4) λ_=>ae X 0 0:=by have:=bv<|aD w1<|ay #[ae w0 nb<|nb+1,a,b,c] 24;simp_all
 have rC:je (aD (aD w1<|ay #[ae w0 nb<|nb+1,a,b,c] 24)<|ay ML 91) w1 24 4<|lc [ae w0 nb<|nb+1,a,b,c]:=(lZ w1 [ae w0 nb<|nb+1,a,b,c] 24).lP _;have an:=G.below bL;have av:=rB.below bL;have d6:w<=w0.heap.size:=bM.size;have b8:W<w:=hR.x.lt;have dh:=hR.bW;have dq:w0<w1.heap.size:=rB.lt;clear bv rM G rB b1;go_wp2_with fail;generalize(aD (aD w1<|ay #[ae w0 nb<|nb+1,a,b,c] 24)<|ay ML 91)=K at*;generalize ef:w1=t at*;generalize d7:w0=BR at*;generalize ce:w.heap.size=z at*;have zL:=rL.lt;clear A0 A4 k0 k1 k2 k3 k4 bL a9 bM;go_loopw[9,10](λgl iv wq=>∃(i:V)(vu vx:V->y)(lo hi:V->V),i<=nl/\iv=aj ah i/\zu K wq (t+1) nl i ts gl vu vx lo hi/\DO w K wq z BR t nb fb [ae aB nb pB,aj ah a,aj ah b,aj ah c,ae aL nl pL,ae R ns pS] [ae (u ⟨BR,0,X⟩) nb<|nb+1,aj ah a,aj ah b,aj ah c])(λ_ iv _=>nl-(aQ iv).toNat);exact⟨0,λ_=>J,λ_=>J,λ_=>0,λ_=>0,j9,rfl,⟨Ee _ _ _ _ _,rL.jY λj _=>(BW A).symm,λk hk=>A,λk hk=>A,λk k' _ hk=>A,λk hk=>A⟩,⟨an,av,rC,be,jK⟩⟩;obtain⟨i,vu,vx,lo,hi,dd,rfl,hI,E⟩:=hrel;have qM:=E.m;have bq:=E.bl;have a3:=E.sz;have q4:aq wr ⟨z,4,X⟩=u (ae aL nl pL):=qM.el 4;obtain⟨aG,pG,rfl⟩:=hI.g.oP;by_cases a7:i<nl;.obtain⟨bb,off,rfl,dj,aC,vs,F,bx⟩:=ba A;(have e0:aq wr ⟨bb,off+i*4,X⟩=u (vs<|i*4):=by rw[bO bq (p:=⟨bb,off+i*4,X⟩)<|by exact aC];simp_all);(have e1:aq wr ⟨bb,off+i*4+1,X⟩=u (vs<|i*4+1):=by rw[bO bq (p:=⟨bb,off+i*4+1,X⟩)<|by exact aC,cJ];exact F _ A);(have e2:aq wr ⟨bb,off+i*4+2,X⟩=u (vs<|i*4+2):=by rw[bO bq (p:=⟨bb,off+i*4+2,X⟩)<|by exact aC,cJ];exact F _ A);(have e3:aq wr ⟨bb,off+i*4+3,X⟩=u (vs<|i*4+3):=by rw[bO bq (p:=⟨bb,off+i*4+3,X⟩)<|by exact aC,cJ];exact F _ A);have ht:oL wr (vs<|i*4) (vs<|i*4+1) (vs<|i*4+2) (vs<|i*4+3)<|ts i:=((bx i a7).rd).below (by simp_all);generalize vs (i*4)=t0 at*;generalize vs (i*4+1)=t1 at*;generalize vs (i*4+2)=t2 at*;generalize vs (i*4+3)=t3 at*;obtain⟨d9,dm,rfl,-,-⟩:=id ht.r;obtain⟨dv,dl,rfl,-,-⟩:=id ht.wr;obtain⟨ec,eb,rfl,-,-⟩:=id ht.g;obtain⟨dx,di,rfl,-,-⟩:=id ht.c;clear F bx ba cb bp;go_wp2_with fail;refine aF (aiU _ _ _ _ (ts i) wr ht) ?_;rintro r wg⟨g2,g5,cl,cm,b0,b1,b2,b3,c0,c1,c2,c3,rfl,aW⟩;have bo:=aW.abi c0 c1 c2 c3;obtain⟨W2,eW,-,bd,bA,zA⟩:=Xj wg [ae g2 ((ts i).nr+1)<|(ts i).nr+1,ae g5 ((ts i).nw+1)<|(ts i).nw+1,ae cl ((ts i).ng+1)<|(ts i).ng+1,ae cm ((ts i).nc+1)<|(ts i).nc+1] [ae b0 (ts i).nr c0,ae b1 (ts i).nw c1,ae b2 (ts i).ng c2,ae b3 (ts i).nc c3] 89 91;have bm:=aW.bl.size;have bB:=aE aW.bl<|aO bA bm;obtain⟨d2,w3,ei,C,hv,br,K3,l3,bf,KF,BF⟩:=hI.mq a7 A (B:=z) A A a3 bB (bo.below bA) ⟨bm,bA.size⟩ rfl rfl rfl rfl;subst hv;rw[zA]at br;have a1:∀g,(ae aG i pG).ownBlock=u g->g<wr.heap.size:=λg hg=>(hI.g.lt g hg).2;have a0:∀g,(ae aG i pG).ownBlock=u g->K.heap.size<=g:=λg hg=>(hI.g.lt g hg).1;have ca:=bd.jg<|K3.jg _ (λe=>by have:=a1 _ e;omega) bd.lt;obtain⟨y0,y1,y2,y3⟩:=tO ca;have f3:=l3.kr;have v0:=l3.el<|i*4;have v1:=l3.el<|i*4+1;have v2:=l3.el<|i*4+2;have v3:=l3.el<|i*4+3;have al:=(E.below bB A).jr KF BF λb T m cc hb hT hr=>⟨λe=>by have h1:=a0 _ e;omega,λe=>A⟩;let⟨cX,cB,cu,co,hn⟩:=bf;clear bo bA bB KF BF K3 a1 a0 bd ca l3 hI E zA qM bq a3 ht e0 e1 e2 e3 aW q4 an av rC rL be hB hS sm a8;subst eW;go_wp2_with(at_builtin;refine BS rfl _ _ 85 rfl _ _ rfl rfl _ _ br ?_);go_roundw;exact⟨i+1,cX,cB,cu,co,A,rfl,hn,al⟩;simp[aQ];omega
 . (have da:decide (i<nl)=au:=by simpa using a7);(have bF:i=nl:=A);obtain⟨MS,aR,bi⟩:=Dg (P:=ao) 26 81 _ 2 16 dR Tryz.CP (ns+1) A (by unfold maxLen;omega) (λ_=>aj ah 0) (λj _=>by(have:j%2=0\/j%2=1:=A);rcases this with e|e<;>simp[fT,e]);simp only[Int.natCast_add,Int.cast_ofNat_Int]at aR;have ds:z<K.heap.size:=an.lt;have bS:ax wr.heap.size wr<|aD wr<|ay MS 81:=kI;have bz:=bi wr;have aV:=E.below bS A;have N:=hI.below bS;have ck:kY (aD wr<|ay MS 81) (ae R ns pS) 2 ns fs:=hS.rd.below (by rw[ce];exact aV.bl);obtain⟨o,a4,rS,dC,ac,bc⟩:=Kb (P:=ao) (w:=aD wr<|ay MS 81) 26 26 81 dR 2 (KY Tryz.CP) wr.heap.size (ns+1) (ns+1) (ae R ns pS) ns A 81 _ _ bz A (ld fs) ck.src;have df:K.heap.size<=wr.heap.size:=E.sz;have d:DO w K o z BR t nb fb _ _:=aV.jr (S:=λb=>b≠wr.heap.size) ⟨A,λb hb _=>ac b hb⟩ (aO bc A) (λb T m cc hb hT hr=>A);(have s:zu K o (t+1) nl i ts (ae aG i pG) vu vx lo hi:=by have cR:jq (λb=>b≠wr.heap.size) (aD wr<|ay MS 81) o:=⟨A,λb hb _=>ac b hb⟩;have d8:(aD wr<|ay MS 81).heap.size=wr.heap.size+1:=fS _ _;refine⟨N.g.jr λg hg=>ac g (by have:=(hI.g.lt g hg).2;omega),N.l.jg<|ac _ A,λk hk=>(N.at_ k hk).jr cR λg T m c h1 h2 hr _=>by have:=(hI.up k hk).2.2;omega,λk hk=>by have:=hI.up k hk;omega,N.uo,N.go⟩);(have M:je o wr.heap.size 81 ((ns+1)*2)<|ld<|mD (ns*2) fs:=rS.jY λj _=>by simp only[ld,mD];split<;>rfl);have a2:=λw=>eM (P:=ao) w 22 _ aB nb pB 0 0 dI;have ad:=λw=>eM (P:=ao) w 25 _ aL nl pL 0 0 dQ;have am:=λw=>eM (P:=ao) w 26 _ R ns pS 0 0 dR;(have nB:aB.isNone=ak->nb=0:=λe=>by simp_all);(have nL:aL.isNone=ak->nl=0:=λe=>by simp_all);(have nS:R.isNone=ak->ns=0:=λe=>by simp_all);generalize aB.isNone=iB at*;generalize aL.isNone=iL at*;generalize R.isNone=iS at*;have c5:aq (aD wr<|ay MS 81) ⟨z,5,X⟩=u (ae R ns pS):=aV.m.el 5;have r5:aq wr ⟨z,5,X⟩=u (ae R ns pS):=E.m.el 5;have d0:aq o ⟨z,0,X⟩=u (ae aB nb pB):=d.m.el 0;have d4:aq o ⟨z,4,X⟩=u (ae aL nl pL):=d.m.el 4;have d5:aq o ⟨z,5,X⟩=u (ae R ns pS):=d.m.el 5;have zq:z<K.heap.size/\BR<K.heap.size/\t<K.heap.size:=⟨an.lt,av.lt,rC.lt⟩;have db:t+1<K.heap.size:=zL;have cg:∀k,k<i->hi k<=wr.heap.size:=λk hk=>(hI.up k hk).2.2;have dT:W<z:=b8;clear cb ba bp an av rC rL be hI E N aV rS bz bi ck ac bc bS q4 qM bq a3 a8 zL;go_upto_if 88 with fail;rename_i K1 al;refine OD (tt:=iB) 89 (λ_ wq=>∃H c',(H=u ⟨BR,0,X⟩\/nb=0)/\je wq t 24 4 (lc [ae H nb c',aj ah a,aj ah b,aj ah c])/\jq (λx=>x≠t) o wq/\ax z o wq) F0 rfl ?_ ?_ ?_;(.intro D;have hz:=nB D;have d3:=d.c.kr;have oC:aq o ⟨t,0,X⟩=u (ae (u ⟨BR,0,X⟩) nb<|nb+1):=d.c.el 0;have bT:=d.c.wX (xs:=[ae (u ⟨BR,0,X⟩) nb<|nb+1,aj ah a,aj ah b,aj ah c]) 0<|ae X 0 0;have q:∃H c',(H=u ⟨BR,0,X⟩\/nb=0)/\je (eN o ⟨t,0,X⟩<|ae X 0 0) t 24 4 (lc [ae H nb c',aj ah a,aj ah b,aj ah c])/\jq (λx=>x≠t) o (eN o ⟨t,0,X⟩<|ae X 0 0)/\ax z o (eN o ⟨t,0,X⟩<|ae X 0 0):=⟨X,0,aH hz,by simp_all,mQ.jl F0 _,az jQ Fk _⟩;clear d s M a2 ad am a4 aR nL nS nB hB hL hS sm bT hz al D aw;go_wp2_with fail;exact⟨_,rfl,q⟩);(.intro _;exact⟨_,_,aP rfl,d.c,mQ,jQ⟩);.intro eg wc hcut;let⟨bR,ci,cS,b9,k1,bX⟩:=hcut;simp only[cr,cN,cO,cT];refine al _ _ ?_;clear al;(have cz:z≠t:=A);have G:=d.m.jg<|k1.jg z cz d.m.lt;have dr:aq wc ⟨z,4,X⟩=u (ae aL nl pL):=G.el 4;have dc:aq wc ⟨z,5,X⟩=u (ae R ns pS):=G.el 5;have aa:Sf<|∀(O Q:n6 bG),(O=u ⟨t+1,0,X⟩\/nl=0)->(Q=u ⟨wr.heap.size,0,X⟩\/ns=0)->UF base W z BR t (t+1) wr.heap.size k3 k4 k6 n nb nl ns c0 aI fb fs ts a b c aB aL R bR O Q pB pL pS ci (ae aG nl pG) vu vx lo hi w K wc:=⟨λO Q a6 a5=>by subst bF;have bw:ax z w wc:=aE d.bl bX;(have ed:base<=z:=A);have kb:∀{v n k f},lj (λb=>b<base) w v k n f->lj (λb=>b<base) wc v k n f:=λh=>h.jr ⟨bw.size,λb hb _=>bw.block b A⟩;have zz:wr.heap.size<o.heap.size:=M.lt;have zk:=k1.jB;have rb:=d.b.jg<|k1.jg BR (d.b.jI d.c) d.b.lt;have rs:=M.jg<|k1.jg _ (M.jI d.c) M.lt;have c8:zu K wc (t+1) i i ts (ae aG i pG) vu vx lo hi:=⟨s.g.jr λg hg=>k1.jg g (λe=>s.g.jI d.c E1<|by rw[hg,e]) (s.g.lt g hg).2,s.l.jg<|k1.jg _ A s.l.lt,λk hk=>(s.at_ k hk).jr k1 λg T m c h1 h2 hr hT=>hr.jI d.c pC,λk hk=>by have:=s.up k hk;omega,s.uo,s.go⟩;exact⟨hR,ce,cK,G,rb,b9,cS,c8,a6,rs,a5,bw,kb hB,hL.jr ⟨bw.size,λb hb _=>bw.block b A⟩,kb hS,⟨zq.2.1,A,zq.1,A,A,A⟩,bh d.sz zk,⟨λk hk=>cg k hk,A⟩⟩⟩;clear d0 d4 d5 c5 r5 d s M b9 k1 bX G hB hL hS a2 nB;go_upto_if 92 with fail;rename_i K2 bg;refine OD (tt:=iL) 14 (λv wq=>wq=wc/\∃H c',v=ae H nl c'/\(H=u ⟨t+1,0,X⟩\/nl=0)) F0 rfl ?_ ?_ ?_;(.intro D;have q:∃(H:n6 bG)(c':V),ae X 0 0=ae H nl c'/\(H=u ⟨t+1,0,X⟩\/nl=0):=⟨X,0,by rw[nL D],aH<|nL D⟩;clear nL nS aa bg D ad am a4 aR sm aw;go_wp2_with fail;first|exact⟨_,rfl,rfl,q⟩|exact⟨_,rfl,n7,q⟩);(.simp);.rintro u2 cn⟨rfl,O,cM,rfl,a6⟩;simp only[cr,cN,cO,cT];refine bg _ _ ?_;clear bg nL ad;go_upto_if 95 with fail;rename_i K3 bt;refine OD (tt:=iS) 15 (λv wq=>wq=cn/\∃H c',v=ae H ns c'/\(H=u ⟨wr.heap.size,0,X⟩\/ns=0)) F0 rfl ?_ ?_ ?_;(.intro D;have q:∃(H:n6 bG)(c':V),ae X 0 0=ae H ns c'/\(H=u ⟨wr.heap.size,0,X⟩\/ns=0):=⟨X,0,by rw[nS D],aH<|nS D⟩;clear nS aa bt D am a4 aR sm aw;go_wp2_with fail;first|exact⟨_,rfl,rfl,q⟩|exact⟨_,rfl,n7,q⟩);(.simp);.rintro u3 cE⟨rfl,Q,cW,rfl,a5⟩;simp only[cr,cN,cO,cT];have hM:=aa.kD O Q a6 a5;subst bF;exact bt _ _<|aei base W z BR t (t+1) wr.heap.size k3 k4 k6 n nb i ns c0 aI fb fs ts a b c aB aL R bR O Q aG pB pL pS ci cM cW pG vu vx lo hi w K cE hM cs ct cv sm aw
def SR(S O E q H b m:V)(i c:Y)(a:L y)(k:V)(s:V->y)(d:ai):U:=match k with|0=>s 0=ar S|1=>s 1=ar S|2=>s 2=ar (S q X)|3=>s 3=ar E|4=>s 4=ar (O 1 X)|5=>s 5=i|6=>s 6=aU #[aM a.toArray,c]|7=>s 7=aU #[aM a.toArray,c]|8=>s 8=aM a.toArray|9=>s 9=c|10=>∃g e,s 10=ar (u ⟨g,0,X⟩)/\H<=g/\je d g b m e|11=>∃g,s 10=ar (u ⟨g,0,X⟩)/\je d g b m (lc a)|12=>s 12=c|_=>True
def SR.below{S O E q H e m:V}{i c:Y}{w w':ai}(d:ax w w w'):∀(k:V)(s:V->y),SR S O E q H e m i c o k s w->SR S O E q H e m i c o k s w'|0,_,h=>h|1,_,h=>h|2,_,h=>h|3,_,h=>h|4,_,h=>h|5,_,h=>h|6,_,h=>h|7,_,h=>h|8,_,h=>h|9,_,h=>h|10,_,h=>by let⟨g,c,b,f,a⟩:=h;exact⟨g,c,b,f,a.below d⟩|11,_,h=>by let⟨g,b,a⟩:=h;exact⟨g,b,a.below d⟩|12,_,h=>h|_+13,_,_=>trivial
def SR.jl{S O E q H d m:V}{i c:Y}{w:ai}(g j:V)(b:y):∀(k:V)(s:V->y),k≠11->SR S O E q H d m i c o k s w->SR S O E q H d m i c o k s (w (g j X) b)|0,_,_,h=>h|1,_,_,h=>h|2,_,_,h=>h|3,_,_,h=>h|4,_,_,h=>h|5,_,_,h=>h|6,_,_,h=>h|7,_,_,h=>h|8,_,_,h=>h|9,_,_,h=>h|10,_,_,h=>by let⟨a,p,f,n,l⟩:=h;by_cases e:a=g;(.subst e;exact⟨a,_,f,n,l.jl j b⟩);.exact⟨a,p,f,n,l.nF e b⟩|11,_,hk,_=>zW rfl hk|12,_,_,h=>h|_+13,_,_,_=>trivial
def WK:∀{l m:L V},l.Pairwise (·<·)->m.Pairwise (·<·)->(∀x,x∈l↔x∈m)->l=m|[],[],_,_,_=>rfl|[],b::m,_,_,h=>by have:=(h b).2 F0;simp at this|a::l,[],_,_,h=>by have:=(h a).1 F0;simp at this|a::l,b::m,c,d,h=>by rw[List.pairwise_cons]at c d;(have e:a=b:=by have g:=(h a).1 F0;have f:=(h b).2 F0;grind);subst e;rw[WK c.2 d.2 λx=>?_];grind
def tB(D:jM)(p:V)(P:Part)(K:V):V->L V|0=>[]|n+1=>if vY D p P n&&decide ((tB D p P K n)<K)then tB D p P K n++[n]else tB D p P K n
def MI(D:jM)(p:V)(P:Part)(K:V):∀n,tB D p P K n=((bI n).filter<|vY D p P).take K|0=>by simp[tB]|n+1=>by simp[tB,MI D p P K n,List.range_succ,List.filter_append,List.length_take];generalize(bI n).filter (vY D p P)=F;cases h:vY D p P n with|false=>simp[h]|true=>simp[List.filter_cons,h,List.filter_nil,DE,fV,DA];by_cases g:F<K;(.rw[nD,eO A,eO Fk]);grind
def Wz{D:jM}{p:V}{P:Part}(h:uK P.jf){e:jy}(a:e∈P.jf):vY D p P e.jb=(e.kh&&sU D p P e):=by unfold vY sU;rw[sE.2 ⟨e,a,rfl⟩,xY h a,fV];congr 2;funext q;unfold Dl;rw[xY h a]
def adj{c:jH}{s0:lH}{p:V}{P:Part}(h:oQ c s0 p P):tB c p P c.K c.D.nl=(mP c p P).map (·.jb):=by
 have hS:=h.vt;rw[MI,mP,fX];congr 1;refine WK (List.Pairwise.filter _ List.pairwise_lt_range) (hS.sublist<|List.Sublist.map _ List.filter_sublist) λx=>?_;simp only[dL,eF,dy];constructor;.rintro⟨d,b⟩;obtain⟨e,a,rfl⟩:=sE.1 (by unfold vY at b;grind:ky P.jf x=ak);exact⟨e,⟨a,by rwa[<-Wz hS a]⟩,rfl⟩
 .rintro⟨e,⟨a,b⟩,rfl⟩;exact⟨aN (h.kZ e a) h.oN,by rwa[Wz hS a]⟩
def pO(kept:L<|V×Y)(a:V->I)(fr:V->L (V×Y)):V->V->I|0,k=>qG kept k|n+1,k=>pO kept a fr n k||(a n&&qG (fr n) k)
def qu(kept:L<|V×Y)(a:V->I)(fr:V->L (V×Y)):V->V->Y|0,k=>tA kept k|n+1,k=>if a n&&qG (fr n) k then tA (fr n) k else qu kept a fr n k
def UZ{l:L<|V×Y}{k:V}(h:qG l k=ak):(k,tA l k)∈l:=by unfold tA;cases a:l.find? λx=>x.1==k with|none=>let⟨x,b,hk⟩:=eP.1 h;grind|some x=>grind
def anE{l:L<|V×Y}{k:V}(h:qG l k=au):tA l k=0:=by unfold tA;rw[List.find?_eq_none.2 λx a e=>by rw[qG,List.any_eq_false]at h;exact h x a e];rfl
def Vy{l:L<|V×Y}{k:V}{v:Y}(h:(k,v)∈l):qG l k=ak:=eP.2 ⟨_,h,F0⟩
section
variable{kept:L<|V×Y}{got:V->I}{fr:V->L (V×Y)}{k:V}
def Xv:∀{n:V},pO kept got fr n k=au->qu kept got fr n k=0|0,h=>anE h|n+1,h=>by simp only[pO,Bool.or_eq_false_iff]at h;simp only[qu,h.2,Xv h.1];rfl
def ahs(n:V):kL (pO kept got fr n) (qu kept got fr n)=qu kept got fr n:=by
 funext k;unfold kL;split;.rfl
 .rename_i h;exact(Xv<|by simpa using h).symm
def O7:∀{n:V},pO kept got fr n k=ak->(k,qu kept got fr n k)∈kept\/∃q,q<n/\got q=ak/\(k,qu kept got fr n k)∈fr q|0,h=>aP (UZ h)|n+1,h=>by simp only[qu];by_cases g:(got n&&qG (fr n) k)=ak;(.rw[rW g];rw[bQ]at g;exact aH ⟨n,A,g.1,UZ g.2⟩);.rw[BW g];simp only[pO,fY]at h;obtain a|⟨q,b,c⟩:=O7<|h.resolve_right g;(.exact aP a);grind
def VW:∀{n q:V},q<n->got q=ak->qG (fr q) k=ak->pO kept got fr n k=ak|n+1,q,c,a,b=>by simp[pO];by_cases e:q=n;(.grind);.simp[VW (n:=n) A a b]
def Uq:∀{n:V},qG kept k=ak->pO kept got fr n k=ak|0,h=>h|n+1,h=>by simp[pO,Uq h]
end
section
variable{p:V}{P:Part}
def Wd{D:jM}{m:kC}{i j:V}(b:j≠i):x7 D p P (xh D p i m P) j:=by
 have a:ky (P.jf.filter λe=>!(e.jb==i)) j=ky P.jf j:=by rw[Bool.eq_iff_iff,sE,sE];grind
 refine⟨rfl,?_,?_,?_,?_⟩;.simp[na,oI,xh,a];rfl
 .simp[oV,xh,fZ];grind
 .funext q;simp[lM,xh,List.any_filter];grind
 .funext q;simp[lL,xh,fZ];grind
variable{c:jH}{s0:lH}{e:jy}
def S2(h:oQ c s0 p P){i q:V}(b:lM P i q=ak):yy c s0 i q<|lL P i q:=by let⟨f,j,d⟩:=eP.1 b;unfold lL;cases a:P.ko.find? λt=>t.jb==i&&t.fr==q with|none=>grind|some t=>have g:=List.find?_some a;simp[bQ,DB]at g;have:=(h.yo t<|gd a).2;grind
def Ui(H:mu c)(h:oQ c s0 p P)(l:e∈P.jf)(o:e.kh=ak)(m:sU c p P e=ak){k:V}(hk:lA (c e.jb) (k:V)=ak):jZ (pO e.jR (lM P e.jb) (lL P e.jb)<|c.D.nb+1,qu e.jR (lM P e.jb) (lL P e.jb)<|c.D.nb+1) k=jZ (rH c s0 e.jb) k:=by have j:=h.kZ e l;have s:=h.oN;have a:=h.CR e l o;cases d:pO e.jR (lM P e.jb) (lL P e.jb) (c.D.nb+1) k with|true=>show(if pO _ _ _ _ k then u (qu _ _ _ _ k)else X)=_;rw[rW d];obtain g|⟨q,_,r,g⟩:=O7 d;(.exact((a _ _).1 g).2.2.symm);.exact((S2 h r _ _).1 g).2.2.symm|false=>show(if pO _ _ _ _ k then u (qu _ _ _ _ k)else X)=_;rw[BW<|by rw[d];simp];cases i:jZ (rH c s0 e.jb) k with|none=>rfl|some v=>exfalso;by_cases f:nh c k=p;(.have:=Uq (got:=lM P e.jb) (fr:=lL P e.jb) (n:=c.D.nb+1)<|Vy<|(a k v).2 ⟨hk,f,i⟩;grind);. (have b:nh c k<c.D.nb+1:=by have:=CO c.D.nb c.D.fb k;unfold nh;omega);have g:=rO m b;simp only[fY,bQ,Es H A hk,gj,DB]at g;obtain(g|g)|g:=g;(.exact f g);(.cases g);.have:=VW (kept:=e.jR) b g.2<|Vy<|(S2 h g.2 k v).2 ⟨hk,rfl,i⟩;grind
def alF(H:mu c)(h:oQ c s0 p P)(a:e∈P.jf)(d:e.kh=ak)(b:sU c p P e=ak):xW (c e.jb) (nQ (c e.jb) (pO e.jR (lM P e.jb) (lL P e.jb)<|c.D.nb+1,qu e.jR (lM P e.jb) (lL P e.jb)<|c.D.nb+1))<|nQ (c e.jb)<|rH c s0 e.jb:=xW.BO (H.jb<|aN (h.kZ e a) h.oN) _ ⟨rfl,rfl,rfl,rfl,λk hk=>Ui H h a d b hk⟩
def agD(H:mu c)(h:oQ c s0 p P)(a:e∈P.jf)(g:e.kh=ak){k:V}(hk:lA (c e.jb) (k:V)=ak)(i:nh c k=p):jZ (P.hs,P.vl) k=jZ (rH c s0 e.jb) k:=by refine h.MU H a (λx f b=>?_) hk i;cases d:ri c x.jb e.jb p with|false=>rfl|true=>have:=(vF.1<|h.gr e.jb (h.tk e a) (aH ⟨e,a,rfl,g⟩) x.jb b d).2;rw[sE.2 ⟨x,f,rfl⟩]at this;cases this
def ZN(H:mu c)(h:oQ c s0 p P)(l:e∈P.jf)(n:e.kh=ak){m:kC}(i:EB c s0 e.jb m){C:lH}(f:∀k:V,lA (c e.jb) k=ak->jZ C k=jZ (rH c s0 e.jb) k)(k:V):jZ (qW c p (P.hs,P.vl) m.ch) k=if xd c e.jb k=ak/\nh c k=p then jZ (ov (c e.jb) C) k else jZ (P.hs,P.vl) k:=by
 have d:=H.jb<|aN (h.kZ e l) h.oN;have o:xW (c e.jb) (nQ (c e.jb) C)<|nQ (c e.jb)<|rH c s0 e.jb:=xW.BO d _ ⟨rfl,rfl,rfl,rfl,f⟩;rw[Kz];by_cases b:nh c k=p;.rw[rW b];by_cases a:xd c e.jb k=ak;(.rw[rW ⟨a,b⟩,OA d,o.ch,<-i.ch,f k<|Bw a,agD H h l n (Bw a) b]);.rw[BW λg=>a g.1,Hi];intro x j ex;rw[i.ch]at j;have:=(Jl d _).w x j;rw[ex]at this;exact a this
 grind
end
section
variable{w w':ai}{x:V}{c:jH}{vB vL:y}{cX cX':V->y}{s0:lH}{E:jL}{p:V}
def akk(ac:nj c s0 E)(Q:p<=c.D.nb)(h:lK w x c vB vL cX E){e:jy}(he:e∈(E p).jf){m:kC}(O:ph x w w')(M:je w' x 156 97998 cX')(G:∀j,j<6+p*200\/6+p*200+200<=j->j≠j7 p e.jb+2->j<97878+e.jb*4\/97878+e.jb*4+4<=j->j≠97974+e.jb->cX' j=cX j)(hd:cX' (j7 p e.jb+2)=ak)(ht:tE cX' (6+p*200) (qW c p ((E p).hs,(E p).vl) m.ch).1<|kL (qW c p ((E p).hs,(E p).vl) m.ch).1 (qW c p ((E p).hs,(E p).vl) m.ch).2)(hr:∀j,j<4->cX' (97878+e.jb*4+j)=(m.r j))(ha:cX' (97974+e.jb)=m.ab):lK w' x c vB vL cX' (qF c p E (e.jb,m))/\nV x cX'=nV x cX:=by
 have h1:=h.nb;have h2:=h.nl;have hP:=ac.jo p Q;have R:=aN (hP.kZ e he) hP.oN;have lo:∀j,j<6->cX' j=cX j:=λj hj=>G j A (by unfold j7;omega) A A;have T:nV x cX'=nV x cX:=by funext b;have:∀p q,p<4->q<4->cX' (mg q p)=cX (mg q p):=λd z v F=>G _ (by unfold mg;omega) (by unfold mg j7;omega) (by unfold mg;omega) (by unfold mg;omega);refine propext ⟨?_,?_⟩;(.rintro(g|⟨d,z,a,b',g⟩);(.exact aP g);.exact aH ⟨d,z,a,b',pC⟩);.rintro(g|⟨d,z,a,b',g⟩);(.exact aP g);.exact aH ⟨d,z,a,b',pC⟩
 have ml:∀d z,d<=c.D.nb->z<=c.D.nb->cX' (mg z d)=cX (mg z d):=λd z v F=>G _ (by unfold mg;omega) (by unfold mg j7;omega) (by unfold mg;omega) (by unfold mg;omega);refine⟨⟨M,h1,h2,aT (lo _ A) h.c0,aT (lo _ A) h.c1,aT (lo _ A) h.c2,aT (lo _ A) h.c3,aT (lo _ A) h.c4,aT (lo _ A) h.c5,?_,?_,λd v=>?_,λd B v C=>?_,λd z v F=>?_,λd z p2 q2 b a1 a2 a3 a4 a5 a6=>?_,λB C j hj=>?_,λB C=>?_⟩,T⟩;.rw[T];exact h.b.jr<|O.uf cX
 .rw[T];exact h.l.jr<|O.uf cX
 .show tE cX' _ (jd E.jo p _ d).hs (kL (jd E.jo p _ d).hs (jd E.jo p _ d).vl);by_cases g:d=p;(.subst g;rwa[ki]);.rw[j8 _ _ g];exact(h.t d v).jY λj a b=>G j A (by unfold j7;omega) A A
 .show Aw cX' _ (oI c d (jd E.jo p _ d) B) (na c d (jd E.jo p _ d) B) (oV (jd E.jo p _ d) B) (lM (jd E.jo p _ d) B) (lL (jd E.jo p _ d) B);by_cases g:d=p;(.subst g;rw[ki];by_cases gi:B=e.jb;(.subst gi;have K:=UT ac Q<|sE.2 ⟨e,he,rfl⟩;have H:oI c d (xh c d e.jb m<|E d) e.jb=ak:=K;(have aa:na c d (xh c d e.jb m<|E d) e.jb=ak:=by unfold na;rw[H,FC λa ha=>by have:=(dL.1 ha).2;simpa using this];rfl);rw[H,aa];have N:=(h.s d e.jb Q R).i;rw[K]at N;exact⟨aT (G _ (by unfold j7;omega) A (by unfold j7;omega)<|by unfold j7;omega) N,hd,λo=>(nomatch o),λo=>(nomatch o),λo=>(nomatch o),λo=>(nomatch o),λo=>(nomatch o)⟩);.have S:=Wd (D:=c) (p:=d) (P:=E d) (m:=m) gi;rw[S.n,S.o,S.e,S.h,S.f];refine(h.s d B v C).jY λj a b=>G j ?_ ?_ ?_ ?_<;>unfold j7 at*<;>omega);.rw[j8 _ _ g];refine(h.s d B v C).jY λj a b=>G j ?_ ?_ ?_ ?_<;>unfold j7 at*<;>omega
 .rw[ml d z v F];(have:((qF c p E (e.jb,m)) d).jS z=(E d).jS z:=by show(jd E.jo p _ d).jS z=_;by_cases g:d=p;(.subst g;rw[ki];rfl);.rw[j8 _ _ g]);rw[this];exact(h.m d z v F).jr λb hb W=>O.oG b W hb
 .rw[ml _ _ a1 a2]at a5;rw[ml _ _ a3 a4]at a6;exact h.ap _ _ _ _ b a1 a2 a3 a4 a5 a6
 .show _=aj ah ((jd E.kO e.jb _ B).r j);by_cases g:B=e.jb;(.subst g;rw[ki];exact hr j hj);.rw[j8 _ _ g,G _ A (by unfold j7;omega) A A];exact h.r B C j hj
 .show _=bD (jd E.kO e.jb _ B).ab;by_cases g:B=e.jb;(.subst g;rwa[ki]);.rw[j8 _ _ g,G _ A (by unfold j7;omega) A A];exact h.a B C
end
def x7.jA{D:jM}{p:V}{P c b:Part}{i:V}(h:x7 D p P c i)(a:x7 D p c b i):x7 D p P b i:=⟨aT a.n h.n,aT a.o h.o,aT a.e h.e,aT a.h h.h,aT a.f h.f⟩
def SM{D:jM}{p:V}:∀(l:L<|V×kC)(E:jL){e:jy},(∀x∈l,x.1≠e.jb)->e∈(E p).jf->e∈((l.foldl (qF D p) E) p).jf/\x7 D p (E p) ((l.foldl (qF D p) E) p) e.jb|[],E,e,_,b=>⟨b,rfl,rfl,rfl,rfl,rfl⟩|a::l,E,e,h,b=>by have c:((qF D p E a) p)=xh D p a.1 a.2 (E p):=ki _ _ _;obtain⟨f,d⟩:=SM l (qF D p E a) (λx g=>h x<|by simp[g]) (by rw[c];exact dL.2 ⟨b,pC⟩);refine⟨f,?_⟩;rw[c]at d;exact(Wd<|Ne.symm<|h a F0).jA d
def uH(c:jH)(p:V)(E:jL)(n:V):jL:=((qC c p<|E p).take n).foldl (qF c p) E
section
variable{c:jH}{s0:lH}{E:jL}{p:V}
def aiB:uH c p E 0=E:=rfl
def afb{n:V}{e:jy}(h:(mP c p<|E p)[n]?=u e):uH c p E (n+1)=qF c p (uH c p E n) (e.jb,yl c (E p) e):=by
 unfold uH;rw[eY,List.foldl_append];have:(qC c p<|E p)[n]?=u (e.jb,yl c (E p) e):=by unfold qC;grind
 rw[this];rfl
def akc{n:V}(h:n=(mP c p<|E p))(a:mP c p (E p)≠[]):sC c p E=u (uH c p E n):=by unfold sC uH;rw[BW a,eO<|by unfold qC;simp;omega]
def ahL(H:mu c)(a:nj c s0 E)(f:p<=c.D.nb)(n:V):nj c s0<|uH c p E n:=by
 have b:=a.jo p f;have:uH c p E n=((((mP c p<|E p).take n).map λe=>(e.jb,yl c (E p) e)).foldl (qF c p) E):=by unfold uH qC;simp
 rw[this];refine nj.DQ H f _ _ E a (λe h=>?_) ?_;.let⟨d,g,i⟩:=Ea<|List.mem_of_mem_take h;exact⟨d,g,b.Gn H d g i⟩
 .rw[fX];exact List.Pairwise.sublist (List.take_sublist _ _)<|Pu b
def amg(g:nj c s0 E)(k:p<=c.D.nb){n:V}{e:jy}(h:(mP c p<|E p)[n]?=u e):e∈((uH c p E n) p).jf/\x7 c p (E p) ((uH c p E n) p) e.jb:=by
 refine SM _ E (λx i=>?_) (Ea<|cH h).1;let⟨j,b⟩:=List.getElem?_of_mem i;rw[fq]at b;split at b;.rename_i d;unfold qC at b;rw[dw]at b;cases f:(mP c p<|E p)[j]? with|none=>grind|some a=>rw[f]at b;simp[ej,gD]at b;subst b;let⟨b1,b2⟩:=dG.1 f;let⟨b3,b4⟩:=dG.1 h;have:=List.pairwise_iff_getElem.1 (Pu<|g.jo p k) j n (by simpa using b1) (by simpa using b3) d;grind
 .cases b
def aeS{P:Part}(W:Bg P){e:jy}(b:e∈P.jf){n k:V}(h:pO e.jR (lM P e.jb) (lL P e.jb) n k=ak):mH<|qu e.jR (lM P e.jb) (lL P e.jb) n k:=by
 obtain g|⟨q,_,d,g⟩:=O7 h;.exact((W.kw e b).2 _ g).2
 .unfold lL at g;cases a:P.ko.find? λt=>t.jb==e.jb&&t.fr==q with|none=>grind|some t=>rw[a]at g;exact((W.kt t<|gd a).2 _ g).2
end
def yk(D:jM)(p i n k:V):I:=lQ (λj=>((D i).wr j==(k:Y))&&(nh D k==p)) n
def Uz(D:jM)(p i k:V):yk D p i (D i).nw k=ak↔xd D i k=ak/\nh D k=p:=by
 constructor;.intro h;let⟨j,a,g⟩:=vi h;simp[bQ,DB]at g;exact⟨pM a<|by simp[g.1],g.2⟩
 .rintro⟨b,d⟩;let⟨j,a,g⟩:=vi b;exact pM a pC
section
variable{w:ai}{x:V}{c:jH}{vB vL:y}{cX:V->y}{s0:lH}{E:jL}
def XO{p:Y}(b:jF p 0 c.D.nb=au)(h:lK w x c vB vL cX E):aZ ao 58 #[ar x,p] w λe d=>e=aX (aU #[aM #[aj ah 0,aj ah 0,aj ah 0,aj ah 0],aj ah 4])/\ax w w d:=by have a:ax w w<|aD w<|ay #[aj ah 0,aj ah 0,aj ah 0,aj ah 0] 67:=kI;go_enter gw,gx;go_wp2_with fail;apply(wQ _ c vB _ _ _ (h.below a).nJ).to;rw[b];go_wp2_with fail;exact cU (by simp[cj,gy,go_sem]) rfl ⟨rfl,a⟩
def OS{w:ai}{d N O a b:V}(h:je w d 67 4<|lc [N,O,a,b]):aq w d=u (aj ah N)/\aq w (d 1 X)=u (aj ah O)/\aq w (d 2 X)=u (aj ah a)/\aq w (d 3 X)=u (aj ah b)/\∀o,eh w (d o X)=au:=⟨h.el _,h.el _,h.el _,h.el _,h.kr⟩
def aam(H:mu c)(B:nj c s0 E){p:V}(t:p<=c.D.nb)(h:lK w x c vB vL cX E):aZ ao 58 #[ar x,p] w λe w'=>e=aX (aU #[aM #[((E p).up:V),((E p).jf.length:V),(BJ c p (E p).jf:V),(B7 c p (E p).jf:V)],aj ah 0])/\ax w w w':=by
 have nt:=h.nl;have jX:=h.nb;have S:=B.jo p t;have K:∀e∈(E p).jf,e.jb<c.D.nl:=λe he=>aN (S.kZ e he) S.oN;have Q:Hid<|ku (pK c p<|E p) c.D.nl=BJ c p (E p).jf:=Zg S.vt K;have R:Hid<|ku (λi=>ky (E p).jf i&&!sZ c p (E p) i) c.D.nl=B7 c p (E p).jf:=amJ S.vt K;have M:ax w w<|aD w<|ay #[aj ah 0,aj ah 0,aj ah 0,aj ah 0] 67:=kI;have h1:=h.below M;obtain⟨a,cap,rfl,hn,-⟩:=h.l.rd;have q1:jF (p:Y) 0 c.D.nb=ak:=by simp[jF];omega
 go_enter gw,gx;go_wp2_with fail;apply(wQ _ c vB _ _ _ h1.nJ).to;rw[q1];clear q1;go_wp2_with fail;apply aF (L2 H B t h1);rintro e j⟨rfl,C⟩;have h2:=h1.below C;go_wp2_with fail;apply(LJ B t h2).to;have z2:w.heap.size+1<=j:=by have:=C.size;simpa using this
 have T:ax w w j:=aE M<|aO C F0;have r0:=(lZ w [aj ah 0,aj ah 0,aj ah 0,aj ah 0] 67).below C;generalize hU:(E p).up=N at*;have HU:Hid<|_=_:=hU;clear hU;generalize hO:(E p).jf.length=O at*;have HO:Hid<|_=_:=hO;clear hO;have rL:=lZ j [(N:V),(O:V),(0:V),(0:V)] 67;have bL:ax j j<|aD j<|ay #[(N:V),(O:V),(0:V),(0:V)] 67:=kI;go_wp2_with fail;go_loopw[8](λi wr=>∃k:V,k<=c.D.nl/\i=k/\ax j j wr/\je wr j 67 4 (lc [(N:V),(O:V),(ku (pK c p<|E p) k:V),(ku (λi=>ky (E p).jf i&&!sZ c p (E p) i) k:V)]))(λi _=>c.D.nl-(aQ i).toNat);exact⟨0,j9,rfl,bL,rL⟩;obtain⟨k,hk,rfl,g,b⟩:=hrel;have o:=h2.below g;have c5:=o.jP o.c5;have zr:=g.size;have zl:=b.lt;have g1:=wj (pK c p<|E p) k;have g2:=wj (λi=>ky (E p).jf i&&!sZ c p (E p) i) k;by_cases f:k<c.D.nl;. (have P:(k:Y)<(c.D.nl:Y):=A);cases q0:ky (E p).jf k with|false=>have F:Hid<|_=_:=AS (p:=pK c p<|E p) (k:=k) (by simp[pK,q0]);have G:Hid<|_=_:=AS (p:=λi=>ky (E p).jf i&&!sZ c p (E p) i) (k:=k) (by simp[q0]);go_wp2_with fail;apply(uj B f t o).to;rw[q0];go_wp2_with fail;go_roundw;exact⟨k+1,A,pR,g,by rw[F.out,G.out];exact b⟩;simp[aQ];omega|true=>(have ho:na c p (E p) k=au:=by simp[na,q0]);have hS:=o.s p k t f;have rd:=λz d=>(o.below (w':=z) d).jP (hS.r ho) (by unfold j7;omega);unfold j7 at rd;cases q1:sZ c p (E p) k with|false=>have F:Hid<|_=_:=AS (p:=pK c p<|E p) (k:=k) (by simp[pK,q1]);have G:Hid<|_=_:=Dp (p:=λi=>ky (E p).jf i&&!sZ c p (E p) i) (k:=k) (by simp[q0,q1]);go_wp2_with fail;apply(uj B f t o).to;rw[q0];go_wp2_with fail;apply aF (Iz H B f t o);rintro e z⟨rfl,d⟩;rw[q1];let⟨l0,l1,l2,l3,lf⟩:=OS<|b.below d;(have W:Hid<|je (z ⟨j,3,X⟩ ((ku (λi=>ky (E p).jf i&&!sZ c p (E p) i) k:V)+1:Y)) j 67 4<|lc [(N:V),(O:V),(ku (pK c p<|E p)<|k+1:V),(ku (λi=>ky (E p).jf i&&!sZ c p (E p) i)<|k+1:V)]:=by rw[F.out,G.out];exact(b.below d).wX (xs:=[_,_,_,_]) 3 _);have q:ax j j z:=aE g<|aO d zr;clear b F G rd;generalize ku (λi=>ky (E p).jf i&&!sZ c p (E p) i) k=m at*;go_wp2_with fail;go_roundw;exact⟨k+1,A,pR,az q jK _,W.out⟩;simp[aQ];omega|true=>have G:Hid<|_=_:=AS (p:=λi=>ky (E p).jf i&&!sZ c p (E p) i) (k:=k) (by simp[q1]);cases q2:(oV (E p) k).kh with|true=>have F:Hid<|_=_:=AS (p:=pK c p<|E p) (k:=k) (by simp[pK,q2]);go_wp2_with fail;apply(uj B f t o).to;rw[q0];go_wp2_with fail;apply aF (Iz H B f t o);rintro e z⟨rfl,d⟩;rw[q1];replace rd:=rd z d;rw[q2]at rd;go_wp2_with fail;go_roundw;exact⟨k+1,A,pR,aE g<|aO d zr,by rw[F.out,G.out];exact b.below d⟩;simp[aQ];omega|false=>have F:Hid<|_=_:=Dp (p:=pK c p<|E p) (k:=k) (by simp[pK,q0,q1,q2]);go_wp2_with fail;apply(uj B f t o).to;rw[q0];go_wp2_with fail;apply aF (Iz H B f t o);rintro e z⟨rfl,d⟩;rw[q1];replace rd:=rd z d;rw[q2]at rd;let⟨l0,l1,l2,l3,lf⟩:=OS<|b.below d;(have W:Hid<|je (z ⟨j,2,X⟩ ((ku (pK c p<|E p) k:V)+1:Y)) j 67 4<|lc [(N:V),(O:V),(ku (pK c p<|E p)<|k+1:V),(ku (λi=>ky (E p).jf i&&!sZ c p (E p) i)<|k+1:V)]:=by rw[F.out,G.out];exact(b.below d).wX (xs:=[_,_,_,_]) 2 _);have q:ax j j z:=aE g<|aO d zr;clear b F G;generalize ku (pK c p<|E p) k=m at*;go_wp2_with fail;go_roundw;exact⟨k+1,A,pR,az q jK _,W.out⟩;simp[aQ];omega
 . (have P:¬(k:Y)<(c.D.nl:Y):=A);rw[show k=c.D.nl by omega,Q.out,R.out]at b;let⟨l0,l1,l2,l3,lf⟩:=OS b;have n:=r0.below g;have rf:=n.kr;have s0:aq wr w=u (aj ah 0):=n.el _;have s1:aq wr ⟨w,1,X⟩=u (aj ah 0):=n.el _;have s2:aq wr ⟨w,2,X⟩=u (aj ah 0):=n.el _;have s3:aq wr ⟨w,3,X⟩=u (aj ah 0):=n.el _;have q:ax w w wr:=aE T<|aO g A;clear Q R g1 g2 b;generalize hg:BJ c p (E p).jf=gn at*;generalize hw:B7 c p (E p).jf=wn at*;have Q:Hid<|_=_:=hg;have R:Hid<|_=_:=hw;clear hg hw;go_wp2_with fail;refine cU (v:=aU #[aM #[(N:V),(O:V),(gn:V),(wn:V)],aj ah 0]) (by simp[cj,gy,go_sem,s0,s1,s2,s3]) rfl ⟨by rw[HU.out,HO.out,Q.out,R.out],?_⟩;exact az (az (az (az q jK _) jK _) jK _) jK _
end
end
section
open Go.RowKit Go.Maps
def j6.agm{z:V}{O:V->V}{w:ai}{e:V}{c:jH}{vB vL:y}{K R:V}{f:V->y}{E:jL}(h:j6 z O w e c vB vL K R f E){i:V}(jX:c.D.nb<=3)(hi:i<c.D.nl)(r:AF):j6 z O (w (R (i*6) X) r.dn (R (i*6+1) X) r.ab (R (i*6+2) X) (r.r 0) (R (i*6+3) X) (r.r 1) (R (i*6+4) X) (r.r 2) (R (i*6+5) X)<|r.r 3) e c vB vL K R f {E with kO:=jd E.kO i r}/\Ag z O w (w (R (i*6) X) r.dn (R (i*6+1) X) r.ab (R (i*6+2) X) (r.r 0) (R (i*6+3) X) (r.r 1) (R (i*6+4) X) (r.r 2) (R (i*6+5) X)<|r.r 3):=by
 have t:=(((((h.kO.jl (i*6) r.dn).jl (i*6+1) r.ab).jl (i*6+2)<|r.r 0).jl (i*6+3)<|r.r 1).jl (i*6+4)<|r.r 2).jl (i*6+5)<|r.r 3;have d:Ag z O w<|w (R (i*6) X) r.dn (R (i*6+1) X) r.ab (R (i*6+2) X) (r.r 0) (R (i*6+3) X) (r.r 1) (R (i*6+4) X) (r.r 2) (R (i*6+5) X)<|r.r 3:=by have n:=λx:yS z O R=>x ⟨by rw[h.oR];omega,by rw[h.oR];omega⟩;exact(((((mQ.jl n _).jl n _).jl n _).jl n _).jl n _).jl n _
 have a:∀b,b≠R->(w (R (i*6) X) r.dn (R (i*6+1) X) r.ab (R (i*6+2) X) (r.r 0) (R (i*6+3) X) (r.r 1) (R (i*6+4) X) (r.r 2) (R (i*6+5) X)<|r.r 3).heap[b]?=w.heap[b]?:=by intro b l;iterate 6 rw[eX _ _ _ _ l]
 refine⟨?_,d⟩;generalize v:(w (R (i*6) X) r.dn (R (i*6+1) X) r.ab (R (i*6+2) X) (r.r 0) (R (i*6+3) X) (r.r 1) (R (i*6+4) X) (r.r 2) (R (i*6+5) X)<|r.r 3)=H at*;have oK:=h.oK;have oR:=h.oR;refine⟨λg B=>h.k g<|d.af.mq B λ_ _=>rfl,oK,oR,h.jT.jg<|a K λe=>pC,λp s m hs=>(h.jo p s m hs).mn d (λ_ _=>rfl) λb l G=>a b λe=>?_,?_⟩;.grind
 .refine t.jY λj F=>?_;(have hd:j/6=i\/j/6≠i:=A);rcases hd with hd|hd;(. (have o:j=i*6+j%6:=A);have C:j%6<6:=dW _ A;rw[hd];simp only[ki];generalize j%6=q at*;subst o;(have:q=0\/q=1\/q=2\/q=3\/q=4\/q=5:=A);rcases this with rfl|rfl|rfl|rfl|rfl|rfl<;>simp[FN]);.show _=FN (jd E.kO i r<|j/6) (j%6);rw[j8 _ _ hd];grind
noncomputable def yr:aK:=Tryz.f67.body.getD cG
noncomputable def q0:aK:=ju yr
noncomputable def q1:aK:=ju<|jm yr
noncomputable def q2:aK:=ju<|ju<|jm<|jm yr
noncomputable def qB:aK:=jm<|ju<|jm<|jm yr
noncomputable def qE:aK:=jm<|jm<|jm yr
def aia:yr=bu q0 (bu q1<|bu (bu q2 qB) qE):=rfl
def WQ(z:V)(O:V->V)(w:ai)(nb i:V)(m:kC):U:=∃c b,(∀a,Ag z O w a->aq a (nb (i*6) X)=u (bD m.ab)/\aq a (nb (i*6+1) X)=u (aj ah<|m.r 0)/\aq a (nb (i*6+2) X)=u (aj ah<|m.r 1)/\aq a (nb (i*6+3) X)=u (aj ah<|m.r 2)/\aq a (nb (i*6+4) X)=u (aj ah<|m.r 3)/\aq a (nb (i*6+5) X)=u (ae c m.ch b))/\DF z O w (ae c m.ch b) m.ch
def DF.mn{z:V}{O O':V->V}{w:ai}{v:y}{l:L qU}(h:DF z O w v l)(c:Ag z O w j)(d:∀b,b<w.heap.size->O' b=O b):DF z O' j v l:=⟨h.1,λa e=>h.2 a<|c.mq e d⟩
def tN(D:jM)(p:V)(a:L<|V×kC)(k:V)(E:jL):jL:=(a.take k).foldl (qF D p) E
def Wc(D:jM)(p:V){a:L<|V×kC}{k:V}{x:V×kC}(b:a[k]?=u x)(E:jL):tN D p a (k+1) E=qF D p (tN D p a k E) x:=by unfold tN;rw[eY,b];simp
def sY(O:V->V)(n:V)(b:V):V:=if b<n then O b else 0
def Bt(O:V->V){n b:V}(h:b<n):sY O n b=O b:=rW h
def Lv(O:V->V){n b:V}(h:n<=b):sY O n b=0:=BW A
def Ji{z:V}{O:V->V}{b:V}(c:1<=z)(h:O b=0):yS z O b:=λa=>by have:=a.1;omega
def alu(D:jM)(p i:V)(m:kC)(E:jL):(⟨jd (jd (jd E.jo p<|qo D p (E p) m.ch) p {jd E.jo p (qo D p (E p) m.ch) p with jf:=(jd E.jo p (qo D p (E p) m.ch) p).jf.filter λx=>!(x.jb==i)}) p {jd (jd E.jo p<|qo D p (E p) m.ch) p {jd E.jo p (qo D p (E p) m.ch) p with jf:=(jd E.jo p (qo D p (E p) m.ch) p).jf.filter λx=>!(x.jb==i)} p with ko:=(jd (jd E.jo p<|qo D p (E p) m.ch) p {jd E.jo p (qo D p (E p) m.ch) p with jf:=(jd E.jo p (qo D p (E p) m.ch) p).jf.filter λx=>!(x.jb==i)} p).ko.filter λx=>!(x.jb==i)},jd E.kO i ⟨ak,m.ab,m.r⟩⟩:jL)=qF D p E (i,m):=by simp[DR,ki];rfl
section
variable(z:V)(O:V->V)(w:ai)(e:V)(c:jH)(vB vL:y)(K R:V)(f:V->y)(E:jL)
def YN(h:j6 z O w e c vB vL K R f E)(H:mu c)(hz:1<=z)(p:V)(hp:p<=c.D.nb)(g:L<|V×kC)(ra:n6 bG)(rc eb ec:V)(hL:g.length<=4)(a2:∀i x,g[i]?=u x->x.1<c.D.nl/\∃rb ro,ra=u ⟨rb,ro,X⟩/\∀w',Ag z O w w'->aq w' ⟨rb,ro+i*7,X⟩=u (aj ah x.1))(a7:∀i x,g[i]?=u x->WQ z O w eb i x.2/\∀bq∈x.2.ch,bq.lX<100/\mH bq.nk)(hB:∀k,k<=g.length->((tN c p g k E) p).jf.length<=1000/\((tN c p g k E) p).ko.length<=1000/\∀x,g[k]?=u x->((tN c p g k E) p).n+x.2.ch.length<=100000)(v4 v6 v7 v8 v9 bo bi bc:y):qB.wp ao (λex a w'=>ex=bH/\a.defers=[]/\a.tmps.size=51/\a 5 J=ae ra g rc/\mA z O w e c vB vL K R (tN c p g g E) w') ⟨#[ar<|K (p*10) X,ae R c.D.nl c.D.nl,J,J,v4,ae ra g rc,v6,v7,v8,v9,bo,bi,bc,ae eb g ec,g,kQ,J,J,J,J,J,J,J,J,J,J,J,J,J,J,J,J,J,J,J,J,J,J,J,J,J,J,J,J,J,J,J,J,J,J,J],[]⟩ w:=by
 have jX:=H.G.nb;have nt:c.D.nl<=1048577:=by let⟨_,_,_,hn,_⟩:=h.rV.l;exact hn
 have a5:Hid<|mA z O w e c vB vL K R (tN c p g 0 E) w:=⟨O,f,h,mQ,λ_ _=>rfl⟩;simp only[qB,yr,dg,aA,ju,jm];generalize hn:g.length=n at*;have be:Hid<|g=n:=hn;clear hn h;go_wp2_with fail;go_loopw[15](λj wr=>∃k:V,k<=n/\j=k/\mA z O w e c vB vL K R (tN c p g k E) wr)(λj _=>n-(aQ j).toNat);exact⟨0,j9,rfl,a5.out⟩;obtain⟨k,hk,rfl,hG⟩:=hrel;by_cases bb:k<n;.obtain⟨x,hx⟩:∃x,g[k]?=u x:=⟨g[k]'(by rw[be.out];exact bb),F0⟩;let⟨O1,f1,ba,q,s⟩:=hG;obtain⟨a0,rb,ro,rfl,aL⟩:=a2 k x hx;let⟨⟨va,vc,N,aB⟩,C⟩:=a7 k x hx;let⟨a8,a1,ac⟩:=hB k A;have ac:=ac x hx;have c0:=aL wr q;let⟨d0,d1,d2,d3,d4,d5⟩:=N wr q;(have aW:(k:Y)<(n:Y):=A);(have bw:(0:Y)<=(k:Y):=A);have bf:Hid<|tN c p g (k+1) E=qF c p (tN c p g k E) x:=Wc c p hx E;let⟨i,m⟩:=x;simp only at a0 ac C aB aL N c0 d0 d1 d2 d3 d4 d5;(have bv:(0:Y)<=(i:Y):=A);(have bt:(i:Y)<(c.D.nl:Y):=A);clear N aL a2 a7 hB;have T:ax wr wr<|aD wr<|ay #[m.ab,(m.r 0),(m.r 1),(m.r 2),(m.r 3),ae va m.ch vc] 202:=kI;have a9:=ba.mn (λb v=>T.block b v) T.size λb v=>Bt O1 v;have aV:=(aB.mn q s).mn (jq.km T) λb v=>Bt O1 v;have rA:=lZ wr [m.ab,(m.r 0),(m.r 1),(m.r 2),(m.r 3),ae va m.ch vc] 202;have kA:=vU wr (ay #[m.ab,(m.r 0),(m.r 1),(m.r 2),(m.r 3),ae va m.ch vc] 202) c0;have am:Ag z O w<|aD wr<|ay #[m.ab,(m.r 0),(m.r 1),(m.r 2),(m.r 3),ae va m.ch vc] 202:=q.mq (jq.km T) s;have br:=q.jB;have g0:aq (aD wr<|ay #[m.ab,(m.r 0),(m.r 1),(m.r 2),(m.r 3),ae va m.ch vc] 202) wr=u m.ab:=rA.el 0;have g1:=rA.el 1;have g2:=rA.el 2;have g3:=rA.el 3;have g4:=rA.el 4;have g5:=rA.el 5;have Q:yS z (sY O1 wr) wr:=Ji hz<|Lv O1 jK;(have t:wr<(aD wr<|ay #[m.ab,(m.r 0),(m.r 1),(m.r 2),(m.r 3),ae va m.ch vc] 202).heap.size:=F0);(have aG:∀b,b<w.heap.size->sY O1 wr b=O b:=λb v=>by rw[Bt O1 A];exact s b v);clear rA T ba aB q s a5;go_wp2_with fail;apply aF (Yu z _ _ e c vB vL K R f1 _ a9 H p hp _ m.ch aV ac C);rintro r wC⟨rfl,O2,f2,aS,W,B⟩;clear g5;(have a6:((jd (tN c p g k E).jo p<|qo c p ((tN c p g k E) p) m.ch) p).jf.length<=1000:=by rw[ki];exact a8);(have aI:((jd (tN c p g k E).jo p<|qo c p ((tN c p g k E) p) m.ch) p).ko.length<=1000:=by rw[ki];exact a1);clear aV C a8 a1 ac;go_wp2_with fail;apply aF (YG z _ _ e c vB vL K R f2 _ aS H p i hp a6);rintro r bm⟨rfl,O3,f3,a3,av,aa⟩;clear a6;go_wp2_with fail;apply aF (akH z _ _ e c vB vL K R f3 _ a3 H p i hp<|by simp only[ki]at aI⊢;exact aI);rintro r wD⟨rfl,O4,f4,aR,an,ad⟩;clear aI;have F:Ag z (sY O1 wr) (aD wr<|ay #[m.ab,(m.r 0),(m.r 1),(m.r 2),(m.r 3),ae va m.ch vc] 202) bm:=W.mq av B;(have M:∀b,b<(aD wr<|ay #[m.ab,(m.r 0),(m.r 1),(m.r 2),(m.r 3),ae va m.ch vc] 202).heap.size->O3 b=sY O1 wr b:=λb v=>by rw[aa b<|aN v W.jB];exact B b v);have o:Ag z (sY O1 wr) (aD wr<|ay #[m.ab,(m.r 0),(m.r 1),(m.r 2),(m.r 3),ae va m.ch vc] 202) wD:=F.mq an M;(have P:∀b,b<(aD wr<|ay #[m.ab,(m.r 0),(m.r 1),(m.r 2),(m.r 3),ae va m.ch vc] 202).heap.size->O4 b=sY O1 wr b:=λb v=>by rw[ad b<|aN v F.jB];exact M b v);(have q0:aq wD wr=u (bD m.ab):=by rw[o.jP Q t];exact g0);(have q1:aq wD ⟨wr,1,X⟩=u (aj ah<|m.r 0):=by rw[o.jP Q t];exact g1);(have q2:aq wD ⟨wr,2,X⟩=u (aj ah<|m.r 1):=by rw[o.jP Q t];exact g2);(have q3:aq wD ⟨wr,3,X⟩=u (aj ah<|m.r 2):=by rw[o.jP Q t];exact g3);(have q4:aq wD ⟨wr,4,X⟩=u (aj ah<|m.r 3):=by rw[o.jP Q t];exact g4);have d:=aR.kO;have fR:=d.kr;have t0:=d.el<|i*6;have t1:=d.el<|i*6+1;have t2:=d.el<|i*6+2;have t3:=d.el<|i*6+3;have t4:=d.el<|i*6+4;have t5:=d.el<|i*6+5;let⟨bd,aw⟩:=aR.agm jX a0 ⟨ak,m.ab,m.r⟩;have al:=am.mq o aG;(have S:∀b,b<w.heap.size->O4 b=O b:=λb v=>by rw[P b Fk];exact aG b v);have aC:=al.mq aw S;clear F M o P W av an B aa ad aS a3 a9 g0 g1 g2 g3 g4 kA am aG al d aR aw c0 d0 d1 d2 d3 d4 d5;generalize bg:wr.heap.size=Nr at*;clear bg;go_wp2_with fail;go_roundw;refine⟨k+1,A,pR,O4,f4,?_,aC,S⟩;rw[bf.out,<-alu];exact bd;simp[aQ];omega
 . (have a4:k=n:=A);have bp:Hid<|k=n:=a4;clear a4;(have aW:¬(k:Y)<(n:Y):=A);go_wp2_with fail;grind
end
def S7{c:Y}(h:mH c):-9223372036854775808<=c/\c<=9223372036854775807:=by
 have:IntKind.i64.min<=c/\c<=9223372036854775807:=by simpa[mH,Lit.wf]using h
 exact⟨this.1,this.2⟩
def Vz(w:ai)(b o:V)(hs:V->I)(v:V->Y):U:=∀k,k<100->aq w (b (o+k) X)=u (bD<|hs k)/\aq w (b (o+100+k) X)=u (aj ah<|v k)
end
section
open Go.RowKit Go.Maps Go.Rel
def wb:L V:=[16,17,19,20,21,22,23,26,34,35,37,38,39,40,41,42,43,44,45,46,47,48,49,50,60,61,62,63,64,65,66,68,69,70,71,72,73,74,75,76,77,78,79,80,81,82,83,84,85,100,101,102,103,104,105,106,107,108,110,111,112,113,114,115,116,117,118,119,126,127,128,129,137,138,139,140,141,142,143,144,148,149,150,170,171,172,173,174,12,24,25,27,28,29,30,51,52,53,54,55,56,57,58,59,86,87,88,89,90,91,92,93,94,95,96,97,98,99,120,121,122,123,124,125,145,146,147]
def Ap:L V:=[133,134,135,164,195,197,198,199,200,201,202,203,204,205,206,207,208,209]
def qA(l:L V):D7:=⟨λf=>l.contains f,ak,1,1000000⟩
def Na(P:dE)(B:D7)(l:L V):I:=l.all λf=>match P.funcs[f]? with|u fn=>(match fn.body with|u c=>Go.Rel.pY P B c|X=>au)&&!(fn.name== "runtime.NumGoroutine")|X=>au
def VE{ok:jO}{P:dE}{B:D7}{l:L V}(hB:B.Fits ok)(g:∀f,ok.fn f->f∈l)(h:Na P B l=ak):sw ok P:=by
 have key:∀f,ok.fn f->∃fn c,P.funcs[f]?=u fn/\fn.body=u c/\Go.Rel.pY P B c=ak/\(fn.name== "runtime.NumGoroutine")=au:=by intro f a;have:=dF.1 h f<|g f a;cases e:P.funcs[f]? with|none=>rw[e]at this;cases this|some fn=>rw[e]at this;simp only[bQ]at this;cases e2:fn.body with|none=>rw[e2]at this;cases this.1|some c=>rw[e2]at this;exact⟨fn,c,rfl,e2,this.1,by simpa using this.2⟩
 refine⟨λf a=>?_,λf fn c a d b=>?_⟩;.let⟨fn,c,k1,k2,k3,k4⟩:=key f a;exact⟨fn,k1,by rw[k2];rfl,k4⟩
 .let⟨i,j,k1,k2,k3,k4⟩:=key f a;rw[d]at k1;cases k1;rw[b]at k2;cases k2;exact uz hB k3
def acH:Na ao (qA wb) wb=ak:=vI
def anV:Na ao (qA Ap) Ap=ak:=vI
def kJ(a:mB):jO:={fn:=λf=>f∈wb,nX:=False,gs:=1,n9:=True,lS:=a,vK:=λ_=>cx,mG:=1000000}
def WC:Tryz.prog.globals.size=1:=vI
def KG(a:mB):(qA wb).Fits<|kJ a:=⟨λf h=>by simpa[qA,kJ]using h,λ_=>trivial,rfl,rfl⟩
def mv(a:mB):zn<|kJ a:=⟨⟨WC⟩,VE (KG a) (λf h=>h) acH,λh=>h,λn=>by simp[kJ,IS],n7,rfl,rfl⟩
def ajr:((bI 25).all λi=>match ti[i]? with|u o=>Gp ao (qA Ap) o|X=>ak)=ak:=vI
def amC(a:mB)(Wg R n:V):L4<|AV (kJ a) (λf=>f∈Ap) Wg R n:=by have b:(qA Ap).Fits<|AV (kJ a) (λf=>f∈Ap) Wg R n:=⟨λf h=>by simpa[qA,AV]using h,λ_=>trivial,rfl,rfl⟩;refine⟨⟨WC⟩,VE b (λf h=>h) anV,λi o hi c=>?_⟩;have:=dF.1 ajr i (by simpa using hi);rw[c]at this;exact PI b this
def mA.re{z:V}{O:V->V}{w:ai}{e:V}{c:jH}{vB vL:y}{K R:V}{E:jL}(h:mA z O w e c vB vL K R E j)(i:V->cF->V)(d:V):mA z O w e c vB vL K R E<|j.re i d:=by let⟨b,k,f,a,g⟩:=h;exact⟨b,k,f.mn (λ_ _=>rfl) jK λ_ _=>rfl,⟨a.jB,a.jg⟩,g⟩
def j6.re{z:V}{O:V->V}{w:ai}{e:V}{c:jH}{vB vL:y}{K R:V}{f:V->y}{E:jL}(h:j6 z O w e c vB vL K R f E)(a:V->cF->V)(d:V):j6 z O (w.re a d) e c vB vL K R f E:=h.mn (λ_ _=>rfl) jK λ_ _=>rfl
def Fl(z:V)(O:V->V)(w:ai)(vL:y)(nl:V):U:=∃lb lo lc,vL=ae (u ⟨lb,lo,X⟩) nl lc/\∀a,Af z O w a->∀j,j<nl*4->∃v,aq a ⟨lb,lo+j,X⟩=u v/\Cj a v
def Fl.uP{z:V}{O c:V->V}{w:ai}{vL:y}{nl:V}(h:Fl z O w vL nl)(d:Af z O w j)(i:∀b,b<w.heap.size->c b=O b):Fl z c j vL nl:=by let⟨lb,lo,lc,g,e⟩:=h;exact⟨lb,lo,lc,g,λa f=>e a<|d.mq f i⟩
def Fl.mn{z:V}{O O':V->V}{w:ai}{vL:y}{nl:V}(h:Fl z O w vL nl)(c:Ag z O w j)(a:∀b,b<w.heap.size->O' b=O b):Fl z O' j vL nl:=h.uP c.af a
def Zero.mn{z:V}{O:V->V}{w:ai}(h:Zero w)(c:yS z O 0)(b:Ag z O w j)(hs:0<w.heap.size):Zero j:=by intro o v a;have e:=b.jg 0 c hs;apply h o v;unfold aq at a⊢;rw[<-e];exact a
def uV(K p R nl:V)(i h g c b e d f a:y):Z y:=#[ar<|K (p*10) X,ae R nl nl,J,J,i,h,J,J,J,g,c,b,e,d,f,a,J,J,J,J,J,J,J,J,J,J,J,J,J,J,J,J,J,J,J,J,J,J,J,J,J,J,J,J,J,J,J,J,J,J,J]
def agT(K p R nl:V)(w:ai):q0.wp ao (λex a b=>ex=bH/\a=⟨uV K p R nl au J J J J J J J J,[]⟩/\b=w) ⟨uV K p R nl J J J J J J J J J,[]⟩ w:=by simp only[q0,yr,dg,aA,ju,jm,uV];go_wp2
section
variable(z:V)(O:V->V)(w:ai)(e:V)(c:jH)(vB vL:y)(K R:V)(f:V->y)(E:jL)
def ahi(h:j6 z O w e c vB vL K R f E)(H:mu c)(p:V)(i:p<=c.D.nb)(k:(E p).jf.length<=8)(l:∀x∈(E p).jf,x.jb<c.D.nl)(b:(E p).ko.length<=1000):q1.wp ao (λex a g=>ex=bH/\∃ra rc,a=⟨uV K p R c.D.nl au (ae ra (mP c p<|E p) rc) (ar<|K (p*10) X) (ae ra (mP c p<|E p) rc) J J J J J,[]⟩/\QX z O w (mP c p<|E p) (aX<|ae ra (mP c p<|E p) rc) g/\jq (λ_=>True) w g) ⟨uV K p R c.D.nl au J J J J J J J J,[]⟩ w:=by simp only[q1,yr,dg,aA,ju,jm,uV];go_wp2_with fail;apply aF (anf z O w e c vB vL K R f E h H p i k l b);rintro r w1⟨d,j⟩;obtain⟨ra,rc,n,rfl,m⟩:=id d;go_wp2_with fail;exact⟨ra,rc,⟨rfl,rfl⟩,d,jq.km j⟩
end
def Fc{T:Z y}{n:V}(h:T=n):T=((bI n).map λk=>T.getD k J).toArray:=by
 apply Array.ext;.simp[h]
 .intro i a b;simp[Array.getD,a]
def ajm{T:Z y}(h:T.size=51):∃g:V->y,T=#[g 0,g 1,g 2,g 3,g 4,g 5,g 6,g 7,g 8,g 9,g 10,g 11,g 12,g 13,g 14,g 15,g 16,g 17,g 18,g 19,g 20,g 21,g 22,g 23,g 24,g 25,g 26,g 27,g 28,g 29,g 30,g 31,g 32,g 33,g 34,g 35,g 36,g 37,g 38,g 39,g 40,g 41,g 42,g 43,g 44,g 45,g 46,g 47,g 48,g 49,g 50]/\∀k,T.getD k J=g k:=⟨λk=>T.getD k J,aT (Fc h) rfl,λ_=>rfl⟩
def aau(a:Act)(hd:a.defers=[])(hs:a.tmps.size=51)(ra:n6 bG)(n rc:V)(b:a 5 J=ae ra n rc)(w:ai):qE.wp ao (λex a h=>ex=cA/\a 4 J=(decide<|0<n)/\h=w) a w:=by
 let⟨T,j⟩:=a;simp only at hd hs b;subst hd;obtain⟨g,rfl,d⟩:=ajm hs;have e5:g 5=ae ra n rc:=by rw[<-d 5];exact b
 rw[e5];have i:decide ((0:Y)<(n:Y))=decide (0<n):=F0
 clear hs b d e5;simp only[qE,yr,dg,aA,ju,jm];go_wp2
def wm:Z y:=#[cx,bK (bU 197) #[] #[],bK (bU 198) #[] #[],bK (bU 199) #[] #[],bK (bU 201) #[] #[],bK (bU 203) #[] #[],bK (bU 205) #[] #[],bK (bU 206) #[] #[],bK (bU 207) #[] #[],bK (bU 208) #[] #[],bK (bU 209) #[] #[]]
def ahR(k:V)(a:1<=k)(b:k<=10):wm[k]?=u (bK (bU<|EV k) #[] #[]):=by
 have:k=1\/k=2\/k=3\/k=4\/k=5\/k=6\/k=7\/k=8\/k=9\/k=10:=A
 rcases this with rfl|rfl|rfl|rfl|rfl|rfl|rfl|rfl|rfl|rfl<;>rfl
def aeF(a:mB)(Wg R n:V)(b:jG):jW (AV (kJ a) (λf=>f∈Ap) Wg R n) b wm wm:=by unfold jW wm;have k:∀f:V,f∈Ap->jC (AV (kJ a) (λf=>f∈Ap) Wg R n) b (bK (bU f) #[] #[]) (bK (bU f) #[] #[]):=λf c=>.func c .nil .nil;exact .cons (.mj n7)<|.cons (k _ E1)<|.cons (k _ E1)<|.cons (k _ E1)<|.cons (k _ E1)<|.cons (k _ E1)<|.cons (k _ E1)<|.cons (k _ E1)<|.cons (k _ E1)<|.cons (k _ E1)<|.cons (k _ E1) .nil
def vr(b:mB)(t0:aY):U:=∃a,b.tY[0]?=u (ay wm t0 a)/\a.2<=wm.size
def agw(a:mB)(t0:aY)(h:vr a t0):SJ (kJ a) (λf=>f∈Ap) wm t0:=⟨amC a,h,aeF a⟩
def Qo{b:Type}(f:b->L y)(n:V):∀(l:L b),(∀x∈l,(f x)=n)->∀(k j:V)(x:b),l[k]?=u x->j<n->(l.flatMap f)[k*n+j]?=(f x)[j]?|[],_,k,j,x,h,_=>by simp at h|d::l,a,0,j,x,h,c=>by grind|d::l,a,k+1,j,x,h,c=>by simp only[List.getElem?_cons_succ]at h;rw[List.flatMap_cons,eZ pC,a d F0,<-Qo f n l (λz e=>a z<|by simp[e]) k j x h c];grind
def anA(l:L qU):(sJ l)=l.length*3:=by induction l with|nil=>rfl|cons x l a=>simp[sJ,a];omega
def ZL{z:V}(S:1<=z)(O:V->V){f:V->kC}{w:ai}{n:V}{v:y}(hL:Iw (HV f) w n v j):v=ae (u ⟨w.heap.size+1,0,X⟩) n n/\jq (λ_=>True) w j/\∀i,i<n->WQ z (sY O w) j (w.heap.size+1) i (f i):=by
 obtain⟨rfl,r,Q,F,d,rfl⟩:=hL;have E:((tu w n r).re F d)=w+(3+n):=by show(tu w n r).heap.size=_;simp[tu,Mr];omega
 refine⟨rfl,⟨by rw[E];omega,λb _ T=>KN T⟩,λi hi=>?_⟩;let⟨M,ac,⟨G,aa,t⟩,R,s⟩:=Q i hi;have C:(tu w n r).heap[w.heap.size+1]?=_:=Nm;have key:∀a,Ag z (sY O w) ((tu w n r).re F d) a->∀b,w.heap.size<=b->b<w+(3+n)->a.heap[b]?=(tu w n r).heap[b]?:=λa h b h1 h2=>h.jg b (Ji S<|Lv O h1) A;have l:∀a,Ag z (sY O w) ((tu w n r).re F d) a->∀o q,o<6->(Bd w r i)[o]?=u q->aq a ((w.heap.size+1) (i*6+o) X)=u q:=by intro a h o q N W;have e:=key a h (w.heap.size+1) A A;rw[C]at e;(have e2:(Bm w n r)[i*6+o]?=u q:=by unfold Bm;rw[Qo (Bd w r) 6 (bI n) (λx hx=>by have:=(Q x<|by simpa using hx).1;simp[Bd,this]) i o i pC N];exact W);unfold aq;grind
 have P:Bd w r i=[bD (f i).ab,aj ah<|(f i).r 0,aj ah<|(f i).r 1,aj ah<|(f i).r 2,aj ah<|(f i).r 3,sv ((r i).b.map λ_=>w.heap.size+3+i) (r i).m (r i).k]:=by unfold Bd;rw[G];rfl
 have D:∃p,sv ((r i).b.map λ_=>w.heap.size+3+i) (r i).m (r i).k=ae p (f i).ch.length (r i).k/\(p=X->(r i).b=X)/\(∀B,p=u B->B=(w.heap.size+3+i)):=by unfold sv;simp_all
 let⟨p,H,g,c⟩:=D;rw[H]at P;refine⟨p,(r i).k,λa h=>⟨?_,?_,?_,?_,?_,?_⟩,⟨_,_,rfl⟩,λa h=>⟨p,_,rfl,λe=>?_,λB e=>⟨λ_=>?_,λo q N=>?_⟩⟩⟩;.exact l a h 0 _ A<|by rw[P];rfl
 .grind
 .grind
 .grind
 .grind
 .grind
 .have:=s<|g e;rw[this]at t;have hl:=C7 List.length t;rw[anA]at hl;grind
 .have K:=c B e;subst K;refine⟨rfl,?_⟩;have:=h.jB;grind
 .have K:=c B e;subst K;have e1:=key a h (w.heap.size+3+i) A A;rw[Wb hi]at e1;rw[qn,bV];unfold aq;grind
structure Inv(c:jH)(s0:lH)(E:jL):U where
 H:mu c
 wf:EJ c
 e:nj c s0 E
 w:vR c E
 pd:∀p,p<=c.D.nb->pend c E p<=96
def Inv.IP{c:jH}{s0:lH}{E b:jL}(h:Inv c s0 E){p k q:V}(a:p<=c.D.nb)(e:qc c E p k q=u b):Inv c s0 b:=⟨h.H,h.wf,h.e.IP h.H a e,h.w.IP h.H h.wf h.e a e,λr d=>bh (XC h.H a e r d)<|h.pd r d⟩
structure wT(z:V)(O:V->V)(w:ai)(e:V)(c:jH)(vB vL:y)(K R:V)(E:jL):U where
 is:∃f,j6 z O w e c vB vL K R f E
 lr:Fl z O w vL c.D.nl
 n0:yS z O 0
 rn:Zero w
 sf:0<w.heap.size
def xr(z:V)(O:V->V)(w:ai)(e:V)(c:jH)(vB vL:y)(K R:V)(f:jL)(d:ai):U:=∃a,wT z a d e c vB vL K R f/\Ag z O w d/\∀b,b<w.heap.size->a b=O b
def wT.tq{z:V}{O:V->V}{w:ai}{e:V}{c:jH}{vB vL:y}{K R:V}{E d:jL}(h:wT z O w e c vB vL K R E)(g:mA z O w e c vB vL K R d j):xr z O w e c vB vL K R d j:=by let⟨f,k,i,a,b⟩:=g;exact⟨f,⟨⟨k,i⟩,h.lr.mn a b,by have:=h.n0;unfold yS Own at*;rw[b 0 h.sf];exact this,h.rn.mn h.n0 a h.sf,aN h.sf a.jB⟩,a,b⟩
def xr.re{z:V}{O:V->V}{w:ai}{e:V}{c:jH}{vB vL:y}{K R:V}{E:jL}(h:xr z O w e c vB vL K R E j)(b:V->cF->V)(d:V):xr z O w e c vB vL K R E<|j.re b d:=by let⟨i,a,g,l⟩:=h;let⟨f,k⟩:=a.is;exact⟨i,⟨⟨f,k.re b d⟩,a.lr.mn ⟨jK,λ_ _ _=>rfl⟩ λ_ _=>rfl,a.n0,a.rn,a.sf⟩,⟨g.jB,g.jg⟩,l⟩
def xr.mq{z:V}{O g:V->V}{w w1:ai}{e:V}{c:jH}{vB vL:y}{K R:V}{E:jL}(d:Ag z O w w1)(f:∀b,b<w.heap.size->g b=O b)(h:xr z g w1 e c vB vL K R E j):xr z O w e c vB vL K R E j:=by let⟨l,i,m,k⟩:=h;exact⟨l,i,d.mq m f,λb a=>by rw[k b<|aN a d.jB];exact f b a⟩
def AY(x:y×jy):vH:=match x.1 with|ae a n c=>⟨x.2.jb,x.2.kh,a,n,c,x.2.jv 0,x.2.jv 1,x.2.jv 2,x.2.jv 3⟩|_=>⟨x.2.jb,x.2.kh,X,0,0,x.2.jv 0,x.2.jv 1,x.2.jv 2,x.2.jv 3⟩
section
variable{z:V}{O:V->V}{w:ai}{e:V}{c:jH}{vB vL:y}{K R:V}{E:jL}{s0:lH}{t0:aY}
def akG(M:mB)(T:wT z O w e c vB vL K R E)(C:Inv c s0 E)(p:V)(v:p<=c.D.nb)(n i:V)(Q:i<n)(x:y×jy)(hx:x.2∈mP c p (E p))(G:qV z O w x.1 x.2.jR)(W:V->kC)(hm:W i=yl c (E p) x.2)(Wg R':V):H8 (AV (kJ M) (λf=>f∈Ap) Wg R' n) n (F4<|HV W) i (ar w) (ar<|u ⟨w.heap.size+4,0,X⟩) (ar<|u ⟨w.heap.size+2,0,X⟩) (ar<|u ⟨w.heap.size+3,0,X⟩)<|zv (om (oF w<|K (p*10) X) i<|AY x) wm t0:=by
 let⟨f,h⟩:=T.is;let⟨o,av,an⟩:=Ea hx;have hP:=C.e.jo p v;have b:=C.w.jo p v;have r:=aN (hP.kZ _ o) hP.oN;let⟨lb,lo,lc,t,a⟩:=T.lr;have a:=a w mQ;let⟨aL,am,m,nt,P⟩:=h.rV.l;have e4:=h.rV.c4;rw[t]at m;injection m with a1 a2 a3;subst a1;let⟨bb,off,N,aw,vs,s,hT⟩:=P A;injection N with N;injection N with aa ad;subst aa ad;have CH:∀j,j<c.D.nl*4->Cj w (vs j):=λj hj=>pC
 let⟨ta,tc,h9,hQ⟩:=h.c9 v;let⟨⟨ka,kc,F⟩,S⟩:=id G;have g:AY x=⟨x.2.jb,x.2.kh,ka,x.2.jR.length,kc,x.2.jv 0,x.2.jv 1,x.2.jv 2,x.2.jv 3⟩:=by unfold AY;rw[F]
 have B:=S w mQ;rw[F]at B;have ac:=amq (i:=i) (ent:=AY x) (t0:=t0) T.rn rfl (h.c1 v) h9 (by rw[<-t];exact e4) (by rw[g]) (s (x.2.jb*4) A) pC pC pC (hT x.2.jb r) (CH _ A) (CH _ A) (CH _ A) (CH _ A) (by rw[g];exact B) hQ.SS ahR;intro τ d;refine amA _ rfl n i Q W _ _ _ _ _ _ _ _ _ _ _ _ _ _ _ _ _ (c x.2.jb) (Kh C.H C.wf r) x.2.jR (E p).ko _ (ac.re τ d) r ?_ ?_ ?_ ?_ ?_;.intro al k;rcases dX.1 k with k|k;(.exact(b.kw _ o).2 al k);.unfold nZ at k;let⟨q,hq,k⟩:=List.mem_flatMap.1 k;exact(b.kt q (dL.1 hq).1).2 al k
 .exact bh (Pa<|C.pd p v) A
 .intro q hq;exact(b.kt q hq).1
 .exact(b.kw _ o).1
 .rw[hm];rfl
end
def cq(a:mB):te (kJ a) ao q0/\te (kJ a) ao q1/\te (kJ a) ao qB/\te (kJ a) ao qE:=by
 have K:=KG a;have h:(Go.Rel.pY ao (qA wb) q0&&Go.Rel.pY ao (qA wb) q1&&Go.Rel.pY ao (qA wb) qB&&Go.Rel.pY ao (qA wb) qE)=ak:=vI
 simp only[bQ]at h;exact⟨uz K h.1.1.1,uz K h.1.1.2,uz K h.1.2,uz K h.2⟩
noncomputable def jD:aK->L bY|dk _ o _=>o.toList|_=>[]
noncomputable def lE(l:L bY)(i:V):bY:=l.getD i ⟨X,.panic<|.const cx,0,"",#[],X⟩
def zV{a:mB}{l:L bY}(h:(l.all λo=>Gp ao (qA wb) o)=ak:=by kernel_rfl):∀o∈l,qh (kJ a) ao o:=λo b=>PI (KG a)<|dF.1 h o b
def ajU:q2=dk 2 ((jD q2).take 2++lE (jD q2) 2::(jD q2).drop 3).toArray au:=vI
def adX:(lE (jD q2) 2).op=.call ⟨.value<|.func 109,#[bj 11,bj 12],#[167,123]⟩:=vI
def ajq(a:mB):∀o∈(jD q2).take 2++oh (lE (jD q2) 2)::(jD q2).drop 3,qh (kJ a) ao o:=zV
def aej(K p R nl:V)(v f e a w:y)(b c d:y):(#[bj 11,bj 12]:Z dt).map (⟨uV K p R nl v f e a (ar<|K (p*10) X) w b c d,[]⟩:Act).eval=#[ar<|K (p*10) X,w]:=vI
def ajA:(lE (jD q2) 2).dst=u 13:=vI
def zi{ok:Go.Rel.jO}{b:Z dt}(h:(b.all λx=>match x with|bj _=>ak|_=>au)=ak:=by kernel_rfl):∀a∈b,mV ok a:=by intro a c;rw[fa]at h;have:=h a c;cases a<;>first|trivial|(simp at this)
def adp(ops:Z bY)(K p R nl:V)(x c d b:y)(w:ai):du ao ops (λe a f=>e=bH/\a=⟨uV K p R nl x c d b (ar<|K (p*10) X) c J J J,[]⟩/\f=w) ((jD q2).take 2) ⟨uV K p R nl x c d b J J J J J,[]⟩ w:=by simp only[jD,q2,yr,dg,aA,ju,jm,uV,fc];go_wp2
def aaS(ops:Z bY)(K p R nl:V)(x f h c d b:y)(g:n6 bG)(n cap:V)(w:ai):du ao ops (λe a i=>e=bH/\a=⟨uV K p R nl x f h c d b (ae g n cap) n kQ,[]⟩/\i=w) ((jD q2).drop 3) ⟨uV K p R nl x f h c d b (ae g n cap) J J,[]⟩ w:=by simp only[jD,q2,yr,dg,aA,ju,jm,uV,fg];go_wp2
def ajo(O:V->V){m n:V}(h:m<=n):sY (sY O m) n=sY O m:=by
 funext b;unfold sY;split;.rfl
 .rw[jz]
def Se{D:jM}{p:V}{a:L<|V×kC}(hL:∀x∈a,x.2.ch.length<=16)(E:jL):∀k,k<=a.length->((tN D p a k E) p).jf.length<=(E p).jf.length/\((tN D p a k E) p).ko.length<=(E p).ko.length/\((tN D p a k E) p).n<=(E p).n+16*k|0,_=>by simp[tN]|k+1,hk=>by obtain⟨d,c,f⟩:=Se hL E k A;obtain⟨x,b⟩:∃x,a[k]?=u x:=⟨_,cd A⟩;have e:=hL _<|cH b;rw[Wc D p b E];simp only[qF,ki,xh];refine⟨bh (fi _ _) d,bh (fi _ _) c,A⟩
def anC:Tryz.f67.body=u yr:=rfl
def akr(K p R nl:V):(#[ar<|K (p*10) X,ae R nl nl]++dY (Tryz.f67.ntmps-(#[ar<|K (p*10) X,ae R nl nl]:Z y)) J)=uV K p R nl J J J J J J J J J:=vI
def agk{w:ai}{l:L jy}{a:n6 bG}{cap g:V}{b:L<|y×jy}(p:b.map Prod.snd=l)(hs:∀x∈b,∃ka kn kc,x.1=ae ka kn kc){base:V}(h:dZ w base 173 7 (ae a l cap) l<|b.flatMap lV)(o:a=g):∀i x,b[i]?=u x->D5 w g (0+i*7) (AY x):=by
 intro i x c;subst o;let⟨ka,kn,kc,hk⟩:=hs x<|cH c;have n:=h.cells rfl;have at':=λj f e m=>by have:=n (i*7+j) f (by rw[Qo lV 7 b (λd _=>B5 d) i j x c e];exact m);rwa[qn,bV]at this
 have k:AY x=⟨x.2.jb,x.2.kh,ka,kn,kc,x.2.jv 0,x.2.jv 1,x.2.jv 2,x.2.jv 3⟩:=by unfold AY;rw[hk]
 rw[k,bV];refine⟨at' 0 _ A rfl,at' 1 _ A rfl,at' 2 _ A ?_,at' 3 _ A rfl,at' 4 _ A rfl,at' 5 _ A rfl,at' 6 _ A rfl⟩;simp[lV,hk]
section
variable{z:V}{O:V->V}{w:ai}{e:V}{c:jH}{vB vL:y}{K R:V}{E:jL}{s0:lH}{t0:aY}
def Jn(c:jH)(P:Part)(l:L jy)(i:V):kC:=match l[i]? with|u x=>yl c P x|X=>xV []
def ake{q:mB}(h0:vr q t0)(hz:1<=z)(hE:wT z O w e c vB vL K R E)(P:Inv c s0 E)(p:V)(hp:p<=c.D.nb):nO (kJ q) ao 67 #[ar<|K (p*10) X,ae R c.D.nl c.D.nl] w λv o=>v=(decide<|0<(mP c p<|E p).length)/\xr z O w e c vB vL K R ((qC c p<|E p).foldl (qF c p) E) o:=by
 have B0:=mv q;have F:=B0.nW;have C:=B0.nR;have B:=C.mI;let⟨k0,k1,kB,kE⟩:=cq q;let⟨f,h⟩:=hE.is;have hP:=P.e.jo p hp;have bf:=bh hP.xq P.H.W.2;have ht:=λx l=>aN (hP.kZ x l) hP.oN;have bb:(E p).ko.length<=1000:=bh (Pa<|P.pd p hp) A;apply nO.CK F B fj anC;rw[akr,aia];refine qx F B<|DN (BN F C k0 (Q:=λex a o=>ex=bH/\a=⟨uV K p R c.D.nl au J J J J J J J J,[]⟩/\∃m d,o=w.re m d) (λe a o m d j=>⟨j.1,j.2.1,by obtain⟨aL,d',rfl⟩:=j.2.2;exact⟨m,d,rfl⟩⟩) (λe a o j=>by rw[j.1];trivial) λm d=>pT (agT K p R c.D.nl<|w.re m d) λe a o j=>⟨j.1,j.2.1,m,d,j.2.2⟩) ?_;rintro ex a w1⟨rfl,rfl,m,d,rfl⟩;refine tS ?_ m d;refine qx F B<|DN (BN (ids:=[]) F C k1 (Q:=λex a o=>ex=bH/\∃ra rc,a=⟨uV K p R c.D.nl au (ae ra (mP c p<|E p) rc) (ar<|K (p*10) X) (ae ra (mP c p<|E p) rc) J J J J J,[]⟩/\QX z O w (mP c p<|E p) (aX<|ae ra (mP c p<|E p) rc) o/\jq (λ_=>True) w o) (λe a o m d j=>⟨j.1,by let⟨ra,rc,q1,q2,q3⟩:=j.2;exact⟨ra,rc,q1,q2,q3.jB,q3.jg⟩⟩) (λe a o j=>by rw[j.1];trivial) λm d=>pT (ahi z O (w.re m d) e c vB vL K R f E (h.re m d) P.H p hp bf ht bb) λe a o j=>⟨j.1,by let⟨ra,rc,q1,⟨a',aB,es,r1,r2,r3,r4⟩,q3⟩:=j.2;exact⟨ra,rc,q1,⟨a',aB,es,r1,r2,λx l=>(r3 x l).mn ⟨jK,λ_ _ _=>rfl⟩ λ_ _=>rfl,r4⟩,q3.jB,q3.jg⟩⟩) ?_;rintro ex a w1⟨rfl,ra,rc,rfl,⟨a',aB,es,r1,r2,r3,r4⟩,S⟩;injection r1 with r1;injection r1 with r1 _ a8;subst r1 a8;generalize hn:(mP c p<|E p).length=n at*;have ba:n<=4:=by rw[<-hn];unfold mP;exact bh (List.length_take_le _ _) P.H.K.2
 have bg:es=n:=by rw[<-hn,<-r2];simp
 have av:Ag z O w w1:=⟨S.jB,λb _ r=>S.jg b n7 r⟩;have s:wT z (sY O w) w1 e c vB vL K R E:=⟨⟨f,h.mn (λb r=>S.jg b n7 r) S.jB λb r=>Bt O r⟩,hE.lr.mn av λb r=>Bt O r,by have:=hE.n0;unfold yS Own at*;rw[Bt O hE.sf];exact this,hE.rn.mn hE.n0 av hE.sf,aN hE.sf S.jB⟩;have a6:=λx l=>(r3 x l).mn av λb r=>Bt O r;have a4:∀x∈es,∃ka kn kc,x.1=ae ka kn kc:=λx l=>by let⟨⟨a,c,hh⟩,_⟩:=r3 x l;exact⟨a,_,c,hh⟩
 have ac:∀(i:V)(x:y×jy),es[i]?=u x->x.2∈mP c p (E p):=λi x l=>by rw[<-r2];exact List.mem_map_of_mem<|cH l
 have aV:∀a,ra=u a->a.spot=X:=by rintro a rfl;rcases r4.2 with⟨T,aS⟩|⟨g,cap,a7,T,h4,_⟩;(.cases T);.injection T with T;injection T with T;rw[T]
 obtain⟨g,aI,be⟩:∃g,(n≠0->ra=u ⟨g,0,X⟩)/\w.heap.size<=g:=by rcases r4.2 with⟨T,aS⟩|⟨g,cap,a7,T,h4,_⟩;(.exact⟨w,λh0=>zW aS h0,jK⟩);.injection T with T;exact⟨g,λ_=>T,h4⟩
 have aW:∀(i:V)(x:y×jy),es[i]?=u x->D5 w1 g (0+i*7) (AY x):=by intro i x l;have hi:=(dG.1 l).1;refine agk r2 a4 (by rw[hn];exact r4) (aI A) i x l
 let am:V->vH:=λi=>match es[i]? with|u x=>AY x|X=>⟨0,au,X,0,0,au,au,au,au⟩;have an:∀(i:V)(x:y×jy),es[i]?=u x->am i=AY x:=λi x l=>by simp only[am,l]
 have hW:nO (kJ q) ao 109 #[ar<|K (p*10) X,ae ra n rc] w1<|Iw (HV<|Jn c (E p)<|mP c p<|E p) w1 n:=by refine abh B0 (agw q t0 h0) (rb:=g) (ro:=0) (ents:=am) A aI aV (λi hi=>?_) λWg R' i hi=>?_;(.obtain⟨x,l⟩:∃x,es[i]?=u x:=⟨_,cd A⟩;rw[an i x l];exact aW i x l);.obtain⟨x,l⟩:∃x,es[i]?=u x:=⟨_,cd A⟩;rw[an i x l];refine akG q s P p hp n i hi x (ac i x l) (a6 x<|cH l) _ ?_ Wg R';(have:(mP c p<|E p)[i]?=u x.2:=by rw[<-r2,dw,l];rfl);unfold Jn;rw[this]
 show me (kJ q) ao [] (bu (bu q2 qB) qE) _ _ _;apply qx F B;rw[ajU];apply qx F B;apply Lg F C rfl adX vI zi Tryz.func109 vI vI (ajq q) (R:=λa o=>a=⟨uV K p R c.D.nl au (ae ra n rc) (ar<|K (p*10) X) (ae ra n rc) (ar<|K (p*10) X) (ae ra n rc) J J J,[]⟩/\∃m d,o=w1.re m d) (λa w m d j=>⟨j.1,by obtain⟨aL,d',rfl⟩:=j.2;exact⟨m,d,rfl⟩⟩) (λa w m d j=>tS j m d) (λm d=>xp (λe a o j=>⟨j.1,j.2.1,m,d,j.2.2⟩) _<|adp _ K p R c.D.nl _ _ _ _<|w1.re m d);rintro a' o⟨rfl,m,d,rfl⟩;refine⟨Iw (HV<|Jn c (E p)<|mP c p<|E p) w1 n,?_,?_⟩;.rw[aej];exactλcs=>(hW cs).re m d
 intro v w2 hL;obtain⟨rfl,M,al⟩:=ZL hz (sY O w) hL;rw[ajo O S.jB]at al;intro m d;have a3:((⟨uV K p R c.D.nl au (ae ra n rc) (ar<|K (p*10) X) (ae ra n rc) (ar<|K (p*10) X) (ae ra n rc) J J J,[]⟩:Act).put (lE (jD q2) 2).dst<|ae (u ⟨w1.heap.size+1,0,X⟩) n n)=⟨uV K p R c.D.nl au (ae ra n rc) (ar<|K (p*10) X) (ae ra n rc) (ar<|K (p*10) X) (ae ra n rc) (ae (u ⟨w1.heap.size+1,0,X⟩) n n) J J,[]⟩:=by rw[ajA];kernel_rfl
 rw[a3];refine xp ?_ _<|aaS _ K p R c.D.nl _ _ _ _ _ _ _ n n<|w2.re m d;rintro ex a w3⟨rfl,rfl,rfl⟩;refine⟨rfl,tS ?_ m d⟩;have aa:Ag z (sY O w) w1 w2:=⟨M.jB,λb _ r=>M.jg b n7 r⟩;let⟨f1,h1⟩:=s.is;have a1:wT z (sY O w) w2 e c vB vL K R E:=⟨⟨f1,h1.mn (λb r=>M.jg b n7 r) M.jB λb r=>rfl⟩,s.lr.mn aa λb r=>rfl,s.n0,s.rn.mn s.n0 aa s.sf,aN s.sf M.jB⟩;let⟨f2,h2⟩:=a1.is;have bc:(qC c p<|E p)=n:=by simp[qC,hn]
 have ad:∀(i:V)x,(qC c p<|E p)[i]?=u x->∃N:y×jy,es[i]?=u N/\x=(N.2.jb,yl c (E p) N.2)/\(mP c p<|E p)[i]?=u N.2:=by intro i x l;unfold qC at l;rw[dw]at l;cases hy:(mP c p<|E p)[i]? with|none=>rw[hy]at l;cases l|some N=>rw[hy]at l;injection l with l;rw[<-r2,dw]at hy;cases aR:es[i]? with|none=>rw[aR]at hy;cases hy|some bd=>rw[aR]at hy;injection hy with hy;exact⟨bd,rfl,by rw[<-l,<-hy],by rw[<-hy]⟩
 have aw:∀x∈qC c p (E p),um (c x.1) x.2/\x.1<c.D.nl:=by intro x l;let⟨i,hi⟩:=fl.1 l;obtain⟨N,t,rfl,aG⟩:=ad i x hi;let⟨m1,m2,m3⟩:=Ea<|ac i N t;exact⟨(P.w.jo p hp).Gn P.H P.wf m1<|ht _ m1,ht _ m1⟩
 have a5:∀x∈qC c p (E p),x.2.ch.length<=16:=by intro x l;let⟨m1,m2⟩:=aw x l;have k1:=m1.len;have k2:=m1.nx;have k3:=(Kh P.H P.wf m2).Bs.2.2.2.1;omega
 have bi:=hP.xi;have bm:=hP.oN;have nt:=P.H.G.nl;subst bc;refine DN (BN F C kB (Q:=λex a o=>ex=bH/\a.defers=[]/\a.tmps.size=51/\a 5 J=ae ra (qC c p<|E p) rc/\mA z (sY O w) w2 e c vB vL K R (tN c p (qC c p<|E p) (qC c p<|E p) E) o) (λe a o m d j=>⟨j.1,j.2.1,j.2.2.1,j.2.2.2.1,j.2.2.2.2.re m d⟩) (λe a o j=>by rw[j.1];trivial) λm d=>pT (YN z (sY O w) (w2.re m d) e c vB vL K R f2 E (h2.re m d) P.H hz p hp (qC c p<|E p) ra rc (w1.heap.size+1) (qC c p<|E p) ba ?_ ?_ ?_ _ _ _ _ _ _ _ _) λe a o j=>⟨j.1,j.2.1,j.2.2.1,j.2.2.2.1,by let⟨O',f',g1,g2,g3⟩:=j.2.2.2.2;exact⟨O',f',g1,⟨g2.jB,g2.jg⟩,g3⟩⟩) ?_;.intro i x l;obtain⟨N,t,rfl,aG⟩:=ad i x l;have hi:=(dG.1 t).1;let⟨m1,m2,m3⟩:=Ea<|ac i N t;refine⟨ht _ m1,g,0,aI A,λo a9=>?_⟩;have a2:=(aW i N t).1;have a0:=dM _ _ a2;rw[a9.jP (Ji hz<|Lv O be)<|aN a0 M.jB];show aq w2 _=_;rw[M.jP n7 a0,a2];let⟨ka,kn,kc,hk⟩:=a4 N<|cH t;unfold AY;rw[hk]
 .intro i x l;obtain⟨N,t,rfl,aG⟩:=ad i x l;have hi:=(dG.1 l).1;have:=al i hi;(have e2:Jn c (E p) (mP c p<|E p) i=yl c (E p) N.2:=by unfold Jn;rw[aG]);rw[e2]at this;refine⟨?_,λbd hu=>?_⟩;(.let⟨va,vc,c1,c2⟩:=this;exact⟨va,vc,λo h'=>c1 o ⟨h'.jB,h'.jg⟩,c2.1,λo h'=>c2.2 o ⟨h'.jB,h'.jg⟩⟩);.have:=(aw _<|cH l).1.Bs bd hu;exact⟨this.1,this.2.1⟩
 .intro k hk;let⟨b1,b2,b3⟩:=Se (D:=c) (p:=p) a5 E k hk;refine⟨A,A,λx l=>?_⟩;have:=a5 x<|cH l;omega
 rintro ex a w3⟨rfl,hd,hs,h5,hG⟩;refine DN (BN F C kE (Q:=λex a o=>ex=cA/\a 4 J=(decide<|0<(qC c p<|E p).length)/\∃m d,o=w3.re m d) (λe a o m d j=>⟨j.1,j.2.1,by obtain⟨aL,d',rfl⟩:=j.2.2;exact⟨m,d,rfl⟩⟩) (λe a o j=>by rw[j.1];trivial) λm d=>pT (aau a hd hs ra _ rc h5<|w3.re m d) λe a o j=>⟨j.1,j.2.1,m,d,j.2.2⟩) ?_;rintro ex a w4⟨rfl,h4,m,d,rfl⟩;refine⟨aH rfl,λ_=>⟨(decide<|0<(qC c p<|E p).length),?_,rfl,?_⟩⟩;.rw[Go.Rel.AH (k:=4) rfl];show(pure<|a 4 J:Sem y).run ao _=_;rw[h4];rfl
 . (have aC:tN c p (qC c p<|E p) (qC c p<|E p) E=(qC c p<|E p).foldl (qF c p) E:=by unfold tN;rw[List.take_length]);rw[aC]at hG;refine xr.mq (av.mq aa λb r=>Bt O r) (λb r=>Bt O r)<|(a1.tq hG).re m d
end
noncomputable def kG:aK->aK|.block _ c=>c|_=>cG
noncomputable def nK:aK->aK|cV _ x _=>x|_=>cG
noncomputable def mR:aK->aK|cV _ _ a=>a|_=>cG
noncomputable def mN:aK:=Tryz.f36.body.getD cG
def Ss:Tryz.f36.body=u mN:=rfl
def Wx(d c a b:y):(#[d,c,a,b]++dY (Tryz.f36.ntmps-(#[d,c,a,b]:Z y)) J)=#[d,c,a,b,J,J,J,J,J,J,J,J,J,J,J,J,J,J,J,J,J,J,J,J,J,J,J,J,J,J,J,J,J,J,J,J,J,J,J,J,J,J,J,J,J,J,J,J,J,J,J,J,J,J,J,J,J,J,J,J,J,J,J,J,J,J,J,J,J,J,J,J,J,J]:=vI
noncomputable def p0:aK:=ju mN
noncomputable def p1:aK:=ju<|jm mN
noncomputable def p3:aK:=ju<|jm<|jm mN
noncomputable def p4:aK:=ju<|ju<|jm<|jm<|jm mN
noncomputable def pI:aK:=kG<|jm<|ju<|jm<|jm<|jm mN
noncomputable def pZ:aK:=jm<|jm<|jm<|jm mN
noncomputable def qj:aK:=mR<|jm pI
noncomputable def tD:aK:=mR<|jm qj
noncomputable def xQ:aK:=mR<|jm tD
noncomputable def BC:aK:=mR<|jm xQ
def S0:mN=bu p0 (bu p1<|bu p3<|bu (bu p4<|.block 0 pI) pZ):=vI
def Df:pI=bu (ju pI) (cV (bj 23) (nK<|jm pI) qj):=vI
def Ei:qj=bu (ju qj) (cV (bj 29) (nK<|jm qj) tD):=vI
def Gt:tD=bu (ju tD) (cV (bj 33) (nK<|jm tD) xQ):=vI
def LO:xQ=bu (ju xQ) (cV (bj 51) (nK<|jm xQ) BC):=vI
def Ry:BC=bu (ju BC) (cV (bj 66) (nK<|jm BC) cG):=vI
def Lz{a:mB}{c:aK}(h:Go.Rel.pY ao (qA wb) c=ak):te (kJ a) ao c:=uz (KG a) h
def pg{b:mB}{wh:ai}{a:Act}{c:L V}{Q:cf->Act->ai->U}{x g:aK}(k:Go.Rel.pY ao (qA wb) x=ak){i:Act}(h:∀f d,x.wp ao (λe a j=>e=bH/\a=i/\∃f d,j=wh.re f d) a<|wh.re f d)(hk:me (kJ b) ao c g Q i wh):me (kJ b) ao c (bu x g) Q a wh:=ado (mv b).nW (mv b).nR (Lz k) h hk
def BI(e p nb K:V)(k q:Y):Z y:=#[ar e,(p:V),k,q,J,J,J,J,au,ar<|K (p*10) X,ar e,ar e,ar e,aj ah (p:V),bD ak,bD au,ar e,ar e,ar<|e 5 X,ae K (nb+1)<|nb+1,aj ah (p:V),ar<|K (p*10) X,aj ah k,J,J,J,J,J,J,J,J,J,J,J,J,J,J,J,J,J,J,J,J,J,J,J,J,J,J,J,J,J,J,J,J,J,J,J,J,J,J,J,J,J,J,J,J,J,J,J,J,J,J,J]
section
variable{z:V}{O:V->V}{w:ai}{e:V}{c:jH}{vB vL:y}{K R:V}{f:V->y}{E:jL}{s0:lH}{t0:aY}
def aim{a:mB}(h:j6 z O w e c vB vL K R f E)(p:V)(j:p<=c.D.nb)(k q:Y)(Q:cf->Act->ai->U)(hk:me (kJ a) ao [0] pI (ee 0<|Exit.then (me (kJ a) ao [] pZ Q) Q) ⟨BI e p c.D.nb K k q,[]⟩ w):me (kJ a) ao [] mN Q ⟨#[ar e,(p:V),k,q,J,J,J,J,J,J,J,J,J,J,J,J,J,J,J,J,J,J,J,J,J,J,J,J,J,J,J,J,J,J,J,J,J,J,J,J,J,J,J,J,J,J,J,J,J,J,J,J,J,J,J,J,J,J,J,J,J,J,J,J,J,J,J,J,J,J,J,J,J,J],[]⟩ w:=by
 have F:=(mv a).nW;have C:=(mv a).nR;have i:jF (p:Y) 0 c.D.nb=ak:=by simp[jF];omega
 rw[S0];apply pg vI;case h=>intro b d;simp only[p0,mN,aJ,aA,ju,jm];go_wp2;exact⟨rfl,b,d,rfl⟩
 case hk=>apply pg vI;(case h=>intro b d;have g:pD (w.re b d) e c vB vL:=(h.re b d).rV;simp only[p1,mN,aJ,aA,ju,jm];go_wp2_with fail;apply aF (CN e c vB vL p _ g);rintro r l⟨rfl,rfl⟩;rw[i];go_wp2;exact⟨rfl,b,d,rfl⟩);case hk=>apply pg vI;(case h=>intro b d;have c5:aq (w.re b d) (e 5 X)=u (ae K (c.D.nb+1)<|c.D.nb+1):=(h.re b d).BA;(have i1:(0:Y)<=(p:Y):=A);(have i2:(p:Y)<(c.D.nb:Y)+1:=A);(have i3:(p:Y)<((c.D.nb+1:V):Y):=A);simp only[p3,mN,aJ,aA,ju,jm];go_wp2;exact⟨rfl,b,d,rfl⟩);case hk=>apply qx F C.mI;apply pg vI;(case h=>intro b d;simp only[p4,mN,aJ,aA,ju,jm];go_wp2;exact⟨rfl,b,d,rfl⟩);case hk=>apply Ae F C.mI;exact hk
end
def QP(fn:Func)(c:y->ai->U)(e:cf)(a:Act)(b:ai):U:=(e=bH\/e=cA)/\(a.defers=[]->∃v,(cj fn a.tmps).run ao b=.ok v b/\c v b)
def yw{fn:Func}{k:V}(b:∀T:Z y,cj fn T=pure (T.getD k J)){Rr:y->ai->U}{e:cf}{a:Act}(c:e=bH\/e=cA){v:y}(d:a k J=v)(f:Rr v h):QP fn Rr e a h:=⟨c,λ_=>⟨v,by rw[b,d];rfl,f⟩⟩
def LC(T:Z y):cj aJ T=pure (T.getD 8 J):=Go.Rel.AH rfl T
def FY{c:mB}{x n:aK}(l:Go.Rel.pY ao (qA wb) x=ak){a:Act}{w:ai}{g:y}{G:ai->U}(k:∀b i d,G b->G (b.re i d))(h:∀i d,x.wp ao (λe a b=>e=cA/\a 8 J=g/\G b) a<|w.re i d):me (kJ c) ao [0] x (ee 0<|Exit.then (me (kJ c) ao [] n<|QP aJ λv b=>v=g/\G b)<|QP aJ λv b=>v=g/\G b) a w:=by apply DN (BN (mv c).nW (mv c).nR (Lz l) (λe a b i d f=>⟨f.1,f.2.1,k _ _ _ f.2.2⟩) (λe a b f=>by rw[f.1];trivial) h);rintro e a b⟨rfl,j,m⟩;show QP aJ (λv b=>v=g/\G b) cA a b;exact yw LC (aH rfl) j ⟨rfl,m⟩
def mA.from{z:V}{O:V->V}{w:ai}{e:V}{c:jH}{vB vL:y}{K R:V}{E:jL}{i:V->cF->V}{d:V}(h:mA z O (w.re i d) e c vB vL K R E j):mA z O w e c vB vL K R E j:=by let⟨b,k,f,a,g⟩:=h;exact⟨b,k,f,⟨a.jB,a.jg⟩,g⟩
section
variable{z:V}{O:V->V}{w:ai}{e:V}{c:jH}{vB vL:y}{K R:V}{f:V->y}{E:jL}{s0:lH}{t0:aY}
abbrev FF(a:mB)(z:V)(O:V->V)(w:ai)(e:V)(c:jH)(vB vL:y)(K R:V)(p:V)(k q:Y)(v:y)(d:jL):U:=nO (kJ a) ao 36 #[ar e,(p:V),k,q] w λr b=>r=v/\mA z O w e c vB vL K R d b
def Di{a:mB}(h:j6 z O w e c vB vL K R f E)(p:V)(d:p<=c.D.nb)(k q:Y)(v:y)(G:ai->U)(hk:me (kJ a) ao [0] pI (ee 0<|Exit.then (me (kJ a) ao [] pZ<|QP aJ λr b=>r=v/\G b)<|QP aJ λr b=>r=v/\G b) ⟨BI e p c.D.nb K k q,[]⟩ w):nO (kJ a) ao 36 #[ar e,(p:V),k,q] w λr b=>r=v/\G b:=by apply nO.CK (mv a).nW (mv a).nR.mI Tryz.func36 Ss;rw[Wx];exact aim h p d k q _ hk
def Rv{a:mB}(h:j6 z O w e c vB vL K R f E)(m:Inv c s0 E)(p:V)(i:p<=c.D.nb)(q:Y):FF a z O w e c vB vL K R p 1 q (sh c p<|E p).isSome<|(qp E p<|sh c p<|E p).getD E:=by
 have F:=(mv a).nW;have B:=(mv a).nR.mI;have l:=m.e.jo p i;apply Di h p i 1 q _ _;rw[Df];apply pg vI;case h=>intro g d;simp only[pI,mN,aJ,aA,ju,jm,kG,BI];go_wp2;exact⟨rfl,g,d,rfl⟩
 case hk=>refine qH F B n7 rfl ?_;refine FY vI (λo g d j=>j.re g d) λg d=>?_;have s:=h.re g d;simp only[pI,mN,aJ,aA,ju,jm,kG,nK,DE];go_wp2_with fail;apply aF (Ze z O _ e c vB vL K R f E s m.H p i l.xq l.oN);rintro r o⟨rfl,j⟩;generalize k:(sh c p<|E p).isSome=b at*;have n:Hid<|_=_:=k;clear k;go_wp2_with fail;exact⟨n.out.symm,j.from⟩
def Vx{a:mB}(N:1<=z)(h:j6 z O w e c vB vL K R f E)(j:Inv c s0 E)(p:V)(k:p<=c.D.nb)(q:Y):FF a z O w e c vB vL K R p 2 q (pX c p<|E p).isSome<|(qp E p<|pX c p<|E p).getD E:=by
 have F:=(mv a).nW;have B:=(mv a).nR.mI;have i:=j.e.jo p k;have m:=bh i.xq j.H.W.2;have v:=λx l=>aN (i.kZ x l) i.oN;have M:(E p).n<=100000:=by have:=i.xi;have:=i.oN;have:=j.H.G.nl;omega
 apply Di h p k 2 q _ _;rw[Df];apply pg vI;case h=>intro g d;simp only[pI,mN,aJ,aA,ju,jm,kG,BI];go_wp2;exact⟨rfl,g,d,rfl⟩
 case hk=>refine qH F B n7 rfl ?_;rw[jz,Ei];apply pg vI;(case h=>intro g d;simp only[qj,pI,mN,aJ,aA,ju,jm,kG,mR];go_wp2;exact⟨rfl,g,d,rfl⟩);case hk=>refine qH F B n7 rfl ?_;refine FY vI (λC g d o=>o.re g d) λg d=>?_;have P:=h.re g d;simp only[qj,pI,mN,aJ,aA,ju,jm,kG,nK,mR,DE];go_wp2_with fail;apply aF (Zk z N O _ e c vB vL K R f E P j.H p k m v M λx l=>i.AG x l);rintro r C⟨rfl,o⟩;generalize s:(pX c p<|E p).isSome=b at*;have t:Hid<|_=_:=s;clear s;go_wp2_with fail;exact⟨t.out.symm,o.from⟩
def JQ(h:j6 z O w e c vB vL K R f E)(a:V->cF->V)(d:V):mA z O w e c vB vL K R E<|w.re a d:=⟨O,f,h.re a d,⟨jK,λ_ _ _=>rfl⟩,λ_ _=>rfl⟩
def U9{b:mB}(h:j6 z O w e c vB vL K R f E)(l:Inv c s0 E)(p:V)(j:p<=c.D.nb)(q:Y)(s:oH c.D.nb p q=au):FF b z O w e c vB vL K R p 3 q au E:=by
 have F:=(mv b).nW;have B:=(mv b).nR.mI;have i:=l.e.jo p j;have t:=bh i.xq l.H.W.2;have v:=λx m=>aN (i.kZ x m) i.oN;apply Di h p j 3 q _ _;rw[Df];apply pg vI;case h=>intro a d;simp only[pI,mN,aJ,aA,ju,jm,kG,BI];go_wp2;exact⟨rfl,a,d,rfl⟩
 case hk=>refine qH F B n7 rfl ?_;rw[jz,Ei];apply pg vI;(case h=>intro a d;simp only[qj,pI,mN,aJ,aA,ju,jm,kG,mR];go_wp2;exact⟨rfl,a,d,rfl⟩);case hk=>refine qH F B n7 rfl ?_;rw[jz,Gt];apply pg vI;(case h=>intro a d;simp only[tD,qj,pI,mN,aJ,aA,ju,jm,kG,mR];go_wp2;exact⟨rfl,a,d,rfl⟩);case hk=>refine qH F B n7 rfl ?_;refine FY vI (λo a d n=>n.re a d) λa d=>?_;have k:=h.re a d;have g:=k.rV;have c5:=k.BA;simp only[tD,qj,pI,mN,aJ,aA,ju,jm,kG,nK,mR,DE];go_wp2_with fail;apply aF (Gl e c vB vL p q _ g);rintro r o⟨rfl,rfl⟩;rw[s];go_wp2_with fail;exact JQ h a d
def anM{g:mB}(h:j6 z O w e c vB vL K R f E)(i:Inv c s0 E)(p:V)(j:p<=c.D.nb)(q:V)(v:q<=c.D.nb)(n:p≠q)(P:oH c.D.nb p q=ak):FF g z O w e c vB vL K R p 3 q (se c p q E).isSome<|(se c p q E).getD E:=by
 have F:=(mv g).nW;have B:=(mv g).nR.mI;have o:=i.e.jo p j;have k:=bh o.xq i.H.W.2;have S:=λx N=>aN (o.kZ x N) o.oN;have m:=bh ((i.e.jo q v).zY p) i.H.C.2;have i1:(0)<=(q):=A
 have i2:(q)<(c.D.nb)+1:=A
 have i3:(q)<((c.D.nb+1)):=A
 apply Di h p j 3 q _ _;rw[Df];apply pg vI;case h=>intro a d;simp only[pI,mN,aJ,aA,ju,jm,kG,BI];go_wp2;exact⟨rfl,a,d,rfl⟩
 case hk=>refine qH F B n7 rfl ?_;rw[jz,Ei];apply pg vI;(case h=>intro a d;simp only[qj,pI,mN,aJ,aA,ju,jm,kG,mR];go_wp2;exact⟨rfl,a,d,rfl⟩);case hk=>refine qH F B n7 rfl ?_;rw[jz,Gt];apply pg vI;(case h=>intro a d;simp only[tD,qj,pI,mN,aJ,aA,ju,jm,kG,mR];go_wp2;exact⟨rfl,a,d,rfl⟩);case hk=>refine qH F B n7 rfl ?_;refine FY vI (λM a d s=>s.re a d) λa d=>?_;have t:=h.re a d;have l:=t.rV;have c5:=t.BA;simp only[tD,qj,pI,mN,aJ,aA,ju,jm,kG,nK,mR,DE];go_wp2_with fail;apply aF (Gl e c vB vL p q _ l);rintro r M⟨rfl,rfl⟩;rw[P];go_wp2_with fail;apply aF (Y9 z O _ e c vB vL K R f E t i.H p q j v n k S m);rintro r M⟨rfl,s⟩;generalize G:(se c p q E).isSome=b at*;have Q:Hid<|_=_:=G;clear G;go_wp2_with fail;exact⟨Q.out.symm,s.from⟩
def Tg{b:mB}(h:j6 z O w e c vB vL K R f E)(l:Inv c s0 E)(p:V)(j:p<=c.D.nb)(q:Y)(s:oH c.D.nb p q=au):FF b z O w e c vB vL K R p 4 q au E:=by
 have F:=(mv b).nW;have B:=(mv b).nR.mI;have i:=l.e.jo p j;have t:=bh i.xq l.H.W.2;have v:=λx m=>aN (i.kZ x m) i.oN;apply Di h p j 4 q _ _;rw[Df];apply pg vI;case h=>intro a d;simp only[pI,mN,aJ,aA,ju,jm,kG,BI];go_wp2;exact⟨rfl,a,d,rfl⟩
 case hk=>refine qH F B n7 rfl ?_;rw[jz,Ei];apply pg vI;(case h=>intro a d;simp only[qj,pI,mN,aJ,aA,ju,jm,kG,mR];go_wp2;exact⟨rfl,a,d,rfl⟩);case hk=>refine qH F B n7 rfl ?_;rw[jz,Gt];apply pg vI;(case h=>intro a d;simp only[tD,qj,pI,mN,aJ,aA,ju,jm,kG,mR];go_wp2;exact⟨rfl,a,d,rfl⟩);case hk=>refine qH F B n7 rfl ?_;rw[jz,LO];apply pg vI;(case h=>intro a d;simp only[xQ,tD,qj,pI,mN,aJ,aA,ju,jm,kG,mR];go_wp2;exact⟨rfl,a,d,rfl⟩);case hk=>refine qH F B n7 rfl ?_;refine FY vI (λo a d n=>n.re a d) λa d=>?_;have k:=h.re a d;have g:=k.rV;have c5:=k.BA;simp only[xQ,tD,qj,pI,mN,aJ,aA,ju,jm,kG,nK,mR,DE];go_wp2_with fail;apply aF (Gl e c vB vL p q _ g);rintro r o⟨rfl,rfl⟩;rw[s];go_wp2_with fail;exact JQ h a d
def adb{g:mB}(h:j6 z O w e c vB vL K R f E)(i:Inv c s0 E)(p:V)(j:p<=c.D.nb)(q:V)(hq:q<=c.D.nb)(T:p≠q)(N:oH c.D.nb p q=ak):FF g z O w e c vB vL K R p 4 q (qi q<|E p).isSome<|(qp E p<|qi q<|E p).getD E:=by
 have F:=(mv g).nW;have B:=(mv g).nR.mI;have k:=i.e.jo p j;have S:=bh k.xq i.H.W.2;have ht:=λx Q=>aN (k.kZ x Q) k.oN;have n:=bh (k.zY q) i.H.C.2;have o:(E p).ko.length<=900:=bh (Pa<|i.pd p j) A;have m:q<4:=by have:=i.H.G.nb;omega
 apply Di h p j 4 q _ _;rw[Df];apply pg vI;case h=>intro a d;simp only[pI,mN,aJ,aA,ju,jm,kG,BI];go_wp2;exact⟨rfl,a,d,rfl⟩
 case hk=>refine qH F B n7 rfl ?_;rw[jz,Ei];apply pg vI;(case h=>intro a d;simp only[qj,pI,mN,aJ,aA,ju,jm,kG,mR];go_wp2;exact⟨rfl,a,d,rfl⟩);case hk=>refine qH F B n7 rfl ?_;rw[jz,Gt];apply pg vI;(case h=>intro a d;simp only[tD,qj,pI,mN,aJ,aA,ju,jm,kG,mR];go_wp2;exact⟨rfl,a,d,rfl⟩);case hk=>refine qH F B n7 rfl ?_;rw[jz,LO];apply pg vI;(case h=>intro a d;simp only[xQ,tD,qj,pI,mN,aJ,aA,ju,jm,kG,mR];go_wp2;exact⟨rfl,a,d,rfl⟩);case hk=>refine qH F B n7 rfl ?_;refine FY vI (λM a d s=>s.re a d) λa d=>?_;have t:=h.re a d;have l:=t.rV;have c5:=t.BA;simp only[xQ,tD,qj,pI,mN,aJ,aA,ju,jm,kG,nK,mR,DE];go_wp2_with fail;apply aF (Gl e c vB vL p q _ l);rintro r M⟨rfl,rfl⟩;rw[N];go_wp2_with fail;apply aF (agM z O _ e c vB vL K R f E t i.H p q j m n o);rintro r M⟨rfl,s⟩;generalize v:(qi q<|E p).isSome=b at*;have P:Hid<|_=_:=v;clear v;go_wp2_with fail;exact⟨P.out.symm,s.from⟩
end
noncomputable def wV:aK:=ju<|nK<|jm BC
def aip:nK (jm BC)=bu wV .ret:=vI
def ZP:wV=dk 14 ((jD wV).take 5++lE (jD wV) 5::(jD wV).drop 6).toArray au:=vI
def ajh:(lE (jD wV) 5).op=.call ⟨.value<|.func 67,#[bj 68,bj 72],#[167,116]⟩:=vI
def acj(a:mB):∀o∈(jD wV).take 5++oh (lE (jD wV) 5)::(jD wV).drop 6,qh (kJ a) ao o:=zV
def aiD:(lE (jD wV) 5).dst=u 73:=vI
def yn(e p nb K:V)(q:Y)(h g c a b f d:y):Z y:=#[ar e,(p:V),aj ah 5,q,J,J,J,J,h,ar<|K (p*10) X,ar e,ar e,ar e,aj ah (p:V),bD ak,bD au,ar e,ar e,ar<|e 5 X,ae K (nb+1)<|nb+1,aj ah (p:V),ar<|K (p*10) X,aj ah 5,bD au,bD au,J,J,J,J,au,au,J,J,au,au,J,J,J,J,J,J,J,J,J,J,J,J,J,J,J,J,au,au,J,J,J,J,J,J,J,J,J,J,J,J,J,ak,ak,g,c,a,b,f,d]
def abm(e p nb K:V)(q:Y)(h a g c f b d:y):(#[bj 68,bj 72]:Z dt).map (⟨yn e p nb K q h a g c f b d,[]⟩:Act).eval=#[a,b]:=vI
def Yw(e p nb K:V)(q:Y)(h d c a b f g v:y):((⟨yn e p nb K q h d c a b f g,[]⟩:Act).put (u 73) v)=⟨yn e p nb K q h d c a b f v,[]⟩:=vI
def Yq(ops:Z bY)(e p nb K R nl:V)(q:Y)(w:ai)(c6:aq w (e 6 X)=u (ae R nl nl)):du ao ops (λb a c=>b=bH/\a=⟨yn e p nb K q au (ar<|K (p*10) X) (ar e) (ar e) (ar<|e 6 X) (ae R nl nl) J,[]⟩/\c=w) ((jD wV).take 5) ⟨yn e p nb K q au J J J J J J,[]⟩ w:=by simp only[jD,wV,BC,xQ,tD,qj,pI,mN,aJ,aA,ju,jm,kG,nK,mR,yn,fc];go_wp2
def akx(ops:Z bY)(e p nb K:V)(q:Y)(j g c h d f b:y)(w:ai):du ao ops (λk a i=>k=bH/\a=⟨yn e p nb K q b g c h d f b,[]⟩/\i=w) ((jD wV).drop 6) ⟨yn e p nb K q j g c h d f b,[]⟩ w:=by simp only[jD,wV,BC,xQ,tD,qj,pI,mN,aJ,aA,ju,jm,kG,nK,mR,yn,fg];go_wp2
section
variable{z:V}{O:V->V}{w:ai}{e:V}{c:jH}{vB vL:y}{K R:V}{E:jL}{s0:lH}{t0:aY}
def VO{g:mB}(x:vr g t0)(N:1<=z)(n:wT z O w e c vB vL K R E)(H:Inv c s0 E)(p:V)(m:p<=c.D.nb)(q:Y):nO (kJ g) ao 36 #[ar e,(p:V),aj ah 5,q] w λr i=>r=(decide<|0<(mP c p<|E p).length)/\xr z O w e c vB vL K R ((qC c p<|E p).foldl (qF c p) E) i:=by
 have F:=(mv g).nW;have C:=(mv g).nR;have B:=C.mI;let⟨f,h⟩:=n.is;have s:=ake x N n H p m;apply Di h p m 5 q _ _;rw[Df];apply pg vI;case h=>intro b d;simp only[pI,mN,aJ,aA,ju,jm,kG,mR,BI];go_wp2;exact⟨rfl,b,d,rfl⟩
 case hk=>refine qH F B n7 (t:=au) rfl ?_;rw[jz,Ei];apply pg vI;(case h=>intro b d;simp only[qj,pI,mN,aJ,aA,ju,jm,kG,mR];go_wp2;exact⟨rfl,b,d,rfl⟩);case hk=>refine qH F B n7 (t:=au) rfl ?_;rw[jz,Gt];apply pg vI;(case h=>intro b d;simp only[tD,qj,pI,mN,aJ,aA,ju,jm,kG,mR];go_wp2;exact⟨rfl,b,d,rfl⟩);case hk=>refine qH F B n7 (t:=au) rfl ?_;rw[jz,LO];apply pg vI;(case h=>intro b d;simp only[xQ,tD,qj,pI,mN,aJ,aA,ju,jm,kG,mR];go_wp2;exact⟨rfl,b,d,rfl⟩);case hk=>refine qH F B n7 (t:=au) rfl ?_;rw[jz,Ry];apply pg vI;(case h=>intro b d;simp only[BC,xQ,tD,qj,pI,mN,aJ,aA,ju,jm,kG,mR];go_wp2;exact⟨rfl,b,d,rfl⟩);case hk=>refine qH F B n7 (t:=ak) rfl ?_;rw[rW rfl,aip];apply qx F B;rw[ZP];apply Lg F C rfl ajh vI zi fj vI vI (acj g) (R:=λa i=>a=⟨yn e p c.D.nb K q au (ar<|K (p*10) X) (ar e) (ar e) (ar<|e 6 X) (ae R c.D.nl c.D.nl) J,[]⟩/\∃b d,i=w.re b d) (λa w b d j=>⟨j.1,by obtain⟨P,Q,rfl⟩:=j.2;exact⟨b,d,rfl⟩⟩) (λa w b d j=>tS j b d) (λb d=>xp (λe a i j=>⟨j.1,j.2.1,b,d,j.2.2⟩) _<|Yq _ e p c.D.nb K R c.D.nl q (w.re b d) (h.re b d).St);rintro S i⟨rfl,b,d,rfl⟩;refine⟨λv i=>v=(decide<|0<(mP c p<|E p).length)/\xr z O w e c vB vL K R ((qC c p<|E p).foldl (qF c p) E) i,?_,?_⟩;(.rw[abm];exactλM=>(s M).re b d);rintro v o⟨rfl,G⟩l d2;rw[aiD,Yw];refine xp ?_ _<|akx _ e p c.D.nb K q _ _ _ _ _ _ _<|o.re l d2;rintro ex a T⟨rfl,rfl,rfl⟩;refine⟨rfl,Hq F B ?_⟩;exact yw (k:=8) (Rr:=λr i=>r=(decide<|0<(mP c p<|E p).length)/\xr z O w e c vB vL K R ((qC c p<|E p).foldl (qF c p) E) i) LC (aH rfl) rfl ⟨rfl,G.re l d2⟩
def Sp{o:mB}(C:vr o t0)(t:1<=z)(j:wT z O w e c vB vL K R E)(m:Inv c s0 E)(p k q:V)(l:p<=c.D.nb)(B:1<=k)(F:k<=5)(n:q<=c.D.nb):nO (kJ o) ao 36 #[ar e,(p:V),(k:V),(q:V)] w λr i=>r=(qc c E p k q).isSome/\xr z O w e c vB vL K R (Cs c E (p,k,q)) i:=by
 let⟨f,h⟩:=j.is;have g:p=q->oH c.D.nb p q=au:=by rintro rfl;simp[oH]
 have b:p≠q->oH c.D.nb p q=ak:=by intro x;simp only[oH,jF,bQ,fo,beq_eq_false_iff_ne,DA];omega
 have:k=1\/k=2\/k=3\/k=4\/k=5:=A
 rcases this with rfl|rfl|rfl|rfl|rfl;.refine(Rv h m p l q).jh ?_;rintro v i⟨rfl,d⟩;refine⟨?_,j.tq ?_⟩;(.simp only[qc,DE,qp,Option.isSome_map]);.simpa only[Cs,qc,DE]using d
 .refine(Vx t h m p l q).jh ?_;rintro v i⟨rfl,d⟩;refine⟨?_,j.tq ?_⟩;(.simp[qc,qp]);.simpa[Cs,qc]using d
 .by_cases a:p=q;(.refine(U9 h m p l q<|g a).jh ?_;rintro v i⟨rfl,d⟩;refine⟨?_,j.tq ?_⟩;(.simp[qc,a]);.simpa[Cs,qc,a]using d);.refine(anM h m p l q n a<|b a).jh ?_;rintro v i⟨rfl,d⟩;refine⟨?_,j.tq ?_⟩;(.simp[qc,a,n]);.simpa[Cs,qc,a,n]using d
 .by_cases a:p=q;(.refine(Tg h m p l q<|g a).jh ?_;rintro v i⟨rfl,d⟩;refine⟨?_,j.tq ?_⟩;(.simp[qc,a]);.simpa[Cs,qc,a]using d);.refine(adb h m p l q n a<|b a).jh ?_;rintro v i⟨rfl,d⟩;refine⟨?_,j.tq ?_⟩;(.simp[qc,qp,a,n]);.simpa[Cs,qc,a,n]using d
 .refine(VO C t j m p l q).jh ?_;rintro v i⟨rfl,d⟩;by_cases s:mP c p (E p)=[];(.refine⟨by simp[qc,sC,s],?_⟩;simpa[Cs,qc,sC,s,qC]using d);.refine⟨by simp[qc,sC,s,List.length_pos_iff],?_⟩;simpa[Cs,qc,sC,s]using d
end
noncomputable def xD:aK->Z bY|dk _ o _=>o|_=>#[]
def afV{ops:Z bY}{n:V}(h:(ops.toList.all λo=>o.guard.isNone)=ak):∀(i:V)o j a,i<n->ops[i]?=u o->o.guard=u (j,a)->j<n:=by intro i o j a _ b c;have:=dF.1 h o (by simpa using fp b);rw[c]at this;cases this
def adS{a:mB}{ops:Z bY}{n:V}(h:((ops.toList.take n).all λo=>Gp ao (qA wb) o)=ak):∀(i:V)o,i<n->ops[i]?=u o->qh (kJ a) ao o:=by intro i o hi b;apply zV h o;rw[fl];exact⟨i,by rw[fq,rW hi];simpa using b⟩
def EA{a:Act}{d:V}(v:y)(h:d<a.tmps):(a.put (u d) v) d J=v:=by simp[cr,h]
def AB(a:Act)(k:V):a.eval (bj k)=a k J:=rfl
def Ds(a:Act)(d:V)(v:y):(a.put (u d) v).tmps.size=a.tmps.size:=by simp[cr]
end
section
open Go.RowKit
def sH(c:jH)(E:jL)(p:Y):V×V×V×V:=if jF p 0 c.D.nb then((E p.toNat).up,(E p.toNat).jf.length,BJ c p.toNat (E p.toNat).jf,B7 c p.toNat (E p.toNat).jf)else(0,0,0,0)
def CZ(c:jH)(E:jL)(p:Y):y:=aU #[aM #[(sH c E p).1,(sH c E p).2.1,(sH c E p).2.2.1,(sH c E p).2.2.2],(tJ (jF p 0 c.D.nb) 4)]
def qI(c:jH)(E:jL)(i:Y):AF:=if jF i 0 ((c.D.nl:Y)-1)then ub c E i.toNat else zZ
def CX(c:jH)(E:jL)(i:Y):y:=aU #[He<|qI c E i,(tJ (jF i 0<|(c.D.nl:Y)-1) 5)]
def Cf(c:jH)(E:jL)(p q:Y):y:=aU #[(EO (oH c.D.nb p q) (((E q.toNat).jS p.toNat):V)),(tJ (oH c.D.nb p q) 4)]
section
variable{w:ai}{x:V}{c:jH}{vB vL:y}{cX:V->y}{s0:lH}{E:jL}
def abS(f:Inv c s0 E)(p:Y)(h:lK w x c vB vL cX E):aZ ao 58 #[ar x,p] w λe d=>e=aX (CZ c E p)/\ax w w d:=by cases q1:jF p 0 c.D.nb with|false=>exact aF (XO q1 h) λe d a=>⟨by rw[a.1];simp[CZ,sH,q1,tJ],a.2⟩|true=>have b:=q1;simp only[jF,bQ,DA]at b;obtain⟨p,rfl⟩:∃g:V,p=g:=⟨p.toNat,A⟩;exact aF (aam f.H f.e A h) λe d a=>⟨by rw[a.1];simp[CZ,sH,q1,tJ],a.2⟩
def afz(f:Inv c s0 E)(i:Y)(h:lK w x c vB vL cX E):aZ ao 55 #[ar x,i] w λe d=>e=aX (CX c E i)/\ax w w d:=by cases q1:jF i 0 ((c.D.nl)-1)with|false=>exact aF (anb q1 h) λe d a=>⟨by rw[a.1];simp[CX,qI,q1,tJ,He,zZ],a.2⟩|true=>have b:=q1;simp only[jF,bQ,DA]at b;obtain⟨i,rfl⟩:∃g:V,i=g:=⟨i.toNat,A⟩;exact aF (ahn f.H f.e A h) λe d a=>⟨by rw[a.1];simp[CX,qI,q1,tJ,He],a.2⟩
def YT(p q:Y)(h:lK w x c vB vL cX E):aZ ao 59 #[ar x,p,q] w λe a=>e=aX (Cf c E p q)/\a=w:=adr p q h
end
section
variable{z:V}{O:V->V}{w:ai}{e:V}{c:jH}{vB vL:y}{K R:V}{f:V->y}{E:jL}{s0:lH}
def adN(i:Inv c s0 E)(jX:c.D.nb<=3)(p:Y)(h:j6 z O w e c vB vL K R f E):aZ ao 20 #[ar e,p] w λr g=>r=aX (CZ c E p)/\ax w w g:=by cases q1:jF p 0 c.D.nb with|false=>have a:ax w w<|aD w<|ay #[aj ah 0,aj ah 0,aj ah 0,aj ah 0] 67:=kI;have hk:=h.rV.below a;(have l:Hid<|CZ c E p=aU #[aM #[aj ah 0,aj ah 0,aj ah 0,aj ah 0],aj ah 4]:=by show _=_;simp[CZ,sH,q1,tJ]);go_enter Tryz.func20,Tryz.ntmps20;go_wp2_with(go_at_call 38;apply(CN _ c vB vL _ _ hk).to);exact cU (v:=aU #[aM #[aj ah 0,aj ah 0,aj ah 0,aj ah 0],aj ah 4]) (by simp[cj,Tryz.results20,go_sem]) rfl ⟨by rw[l.out],a⟩|true=>have d:=q1;simp only[jF,bQ,DA]at d;obtain⟨p,rfl⟩:∃m:V,p=m:=⟨p.toNat,A⟩;have b:=i.e.jo p A;exact aF (adh z O w e c vB vL K R f E h jX p A (λx k=>aN (b.kZ x k) b.oN)<|bh b.xq i.H.W.2) λr g j=>⟨by rw[j.1];simp[CZ,sH,q1,tJ],j.2⟩
def afs(b:Inv c s0 E)(jX:c.D.nb<=3)(nt:c.D.nl<=24)(i:Y)(h:j6 z O w e c vB vL K R f E):aZ ao 22 #[ar e,i] w λr k=>r=aX (CX c E i)/\ax w w k:=by cases q1:jF i 0 ((c.D.nl)-1)with|false=>have a:ax w w<|aD w<|ay #[au,au,aj ah 0,aj ah 0,aj ah 0,aj ah 0] 75:=kI;have hk:=h.rV.below a;(have l:Hid<|CX c E i=aU #[aM #[au,au,aj ah 0,aj ah 0,aj ah 0,aj ah 0],aj ah 5]:=by show _=_;simp[CX,qI,q1,tJ,He,zZ]);go_enter Tryz.func22,Tryz.ntmps22;go_wp2_with(go_at_call 42;apply(H3 _ c vB vL _ _ hk).to);exact cU (v:=aU #[aM #[au,au,aj ah 0,aj ah 0,aj ah 0,aj ah 0],aj ah 5]) (by simp[cj,Tryz.results22,go_sem]) rfl ⟨by rw[l.out],a⟩|true=>have g:=q1;simp only[jF,bQ,DA]at g;obtain⟨i,rfl⟩:∃m:V,i=m:=⟨i.toNat,A⟩;exact aF (ajG z O w e c vB vL K R f E h jX nt i A (λp d x n=>aN ((b.e.jo p d).kZ x n) (b.e.jo p d).oN) λp d=>bh (b.e.jo p d).xq b.H.W.2) λr k j=>⟨by rw[j.1];simp[CX,qI,q1,tJ],j.2⟩
def aag(jX:c.D.nb<=3)(p q:Y)(h:j6 z O w e c vB vL K R f E):aZ ao 21 #[ar e,p,q] w λr b=>r=aX (Cf c E p q)/\b=w:=by cases q1:oH c.D.nb p q with|false=>(have g:Hid<|Cf c E p q=aU #[aj ah 0,aj ah 4]:=by show _=_;simp[Cf,q1,tJ,EO]);have hk:=h.rV;go_enter Tryz.func21,Tryz.ntmps21;go_wp2_with(go_at_call 40;apply(Gl _ c vB vL _ _ _ hk).to);go_ret2;exact⟨by rw[g.out];rfl,rfl⟩|true=>have a:=q1;simp only[oH,jF,bQ,DA,fo,beq_eq_false_iff_ne]at a;obtain⟨p,rfl⟩:∃i:V,p=i:=⟨p.toNat,A⟩;obtain⟨q,rfl⟩:∃j:V,q=j:=⟨q.toNat,A⟩;exact aF (ady z O w e c vB vL K R f E h jX p q A A A) λr b d=>⟨by rw[d.1];simp[Cf,q1,tJ,EO],d.2⟩
def abY(p:Y)(h:j6 z O w e c vB vL K R f E)(q1:jF p 0 c.D.nb=au):aZ ao 23 #[ar e,p] w λr a=>r=aX (aU #[ae X 0 0,aj ah 4])/\a=w:=by have hk:=h.rV;go_enter Tryz.func23,Tryz.ntmps23;go_wp2_with(go_at_call 38;apply(CN _ c vB vL _ _ hk).to);go_ret2;simp
end
def Kx(c:jH)(E:jL)(p:Y)(w:ai)(r:Ending)(a:ai):U:=∃v,r=aX (aU #[v,(tJ (jF p 0 c.D.nb) 4)])/\dZ a w 81 2 v (if jF p 0 c.D.nb then ku (E p.toNat).hs 100 else 0) (if jF p 0 c.D.nb then vf (E p.toNat).hs (E p.toNat).vl 100 else[])/\ax w w a
structure BU(w:ai)(s e x:V)(c:jH)(E:jL):U where
 lt:s<w
 c0:aq w s=some (ar e)
 c1:aq w (s 1 none)=some (ar x)
 m1:∀w1,ax w w w1->∀p q,aZ ao 21 #[ar e,aj ah p,aj ah q] w1 λr w'=>r=aX (Cf c E p q)/\w'=w1
 m2:∀w1,ax w w w1->∀p q,aZ ao 59 #[ar x,aj ah p,aj ah q] w1 λr w'=>r=aX (Cf c E p q)/\w'=w1
 r1:∀w1,ax w w w1->∀i,aZ ao 22 #[ar e,aj ah i] w1 λr w'=>r=aX (CX c E i)/\ax w1 w1 w'
 r2:∀w1,ax w w w1->∀i,aZ ao 55 #[ar x,aj ah i] w1 λr w'=>r=aX (CX c E i)/\ax w1 w1 w'
 l1:∀w1,ax w w w1->∀p,aZ ao 20 #[ar e,aj ah p] w1 λr w'=>r=aX (CZ c E p)/\ax w1 w1 w'
 l2:∀w1,ax w w w1->∀p,aZ ao 58 #[ar x,aj ah p] w1 λr w'=>r=aX (CZ c E p)/\ax w1 w1 w'
 t1:∀w1,ax w w w1->∀p,aZ ao 23 #[ar e,aj ah p] w1 (Kx c E p w1)
 t2:∀w1,ax w w w1->∀p,aZ ao 94 #[ar x,aj ah p] w1 (Kx c E p w1)
def BU.below{w w':ai}{s e x:V}{c:jH}{E:jL}(h:BU w s e x c E)(d:ax w w w'):BU w' s e x c E:=have a:∀{w1},ax w' w' w1->ax w w w1:=λb=>aE d (aO b d.size);⟨aN h.lt d.size,by rw[bO d h.lt];exact h.c0,by rw[bO d h.lt];exact h.c1,λw1 b=>h.m1 w1<|a b,λw1 b=>h.m2 w1<|a b,λw1 b=>h.r1 w1<|a b,λw1 b=>h.r2 w1<|a b,λw1 b=>h.l1 w1<|a b,λw1 b=>h.l2 w1<|a b,λw1 b=>h.t1 w1<|a b,λw1 b=>h.t2 w1<|a b⟩
noncomputable def vX:aK:=Tryz.f31.body.getD cG
noncomputable def yZ:aK:=kG<|jm<|ju<|jm vX
noncomputable def wi:aK:=mR<|jm yZ
def xF(a b c d e f g h i:y):Z y:=#[a,b,c,J,J,d,e,J,J,J,J,J,J,J,J,J,J,J,J,J,J,f,g,h,i,J,J,J,J,J,J,J,J,J,J,J,J,J,J,J,J,J,J,J,J,J,J,J,J,J,J,J,J,J,J,J,J,J,J,J,J,J,J,J,J,J,J,J,J,J,J,J,J,J,J,J,J,J,J,J,J,J,J,J,J,J,J,J,J,J,J,J,J,J,J,J,J,J,J,J,J,J,J,J,J,J,J,J,J,J,J,J,J,J,J,J,J,J,J,J,J,J,J,J,J,J,J,J,J,J,J,J,J,J,J,J,J,J,J,J,J,J,J,J,J,J,J,J,J,J,J,J,J,J,J,J,J,J,J,J,J,J,J,J,J,J,J,J,J,J,J,J,J,J]
def xo(W s B:V)(k b c a:Y)(wh:I):Z y:=xF (ar W) (ar s) (aM #[k,b,c,a,wh]) (ar B) au (ar B) k au au
def Jd(w:ai)(ex:cf)(a:Act)(b:ai):U:=ex=cA/\a 6 J=ak/\ax w w b
section
variable(W s e x:V)(c:jH)(E:jL)(w:ai)
def ahx(B:V)(p q C:Y)(wh:I)(a:BU w s e x c E)(r1:je w B 105 5<|lc [aj ah 5,p,q,C,wh]):wi.wp ao (Jd w) ⟨xo W s B 5 p q C wh,[]⟩ w:=by have g0:=a.c0;have d:=a.c1;have t0:=r1.el 0;have t1:=r1.el 1;have t2:=r1.el 2;have m1:=a.m1;have m2:=a.m2;unfold Cf at m1 m2;generalize(EO (oH c.D.nb p q) (((E q.toNat).jS p.toNat):V))=N at*;simp only[wi,yZ,vX,dV,aA,ju,jm,kG,mR,xo,xF];go_wp2_with fail;go_quiet((go_at_call 21;exact gz<|m1 _ (yV jQ _) p q));go_wp2_with fail;have b2:=yV (Below.refl w w) nq;have b:=a.below<|yV jQ nq;have d1:aq (w.drewN nq) (B 1 X)=u (aj ah p):=t1;have d2:aq (w.drewN nq) (B 2 X)=u (aj ah q):=t2;have n2:=b.m2;unfold Cf at n2;generalize w.drewN nq=f at*;have d:=b.c1;go_quiet((go_at_call 59;exact gz<|n2 _ (yV jQ _) p q));go_wp2_with fail;exact⟨rfl,rfl,yV b2 _⟩
end
end
section
open Go.RowKit Go.Maps Go.Sort
def alz:Tryz.prog.follows .mixedOrders=ak:=vI
def agc(w:ai)(a b c d:Y):(Op.equalIn 10000 73 (aM #[a,b,c,d])<|aM #[a,b,c,d]).run ao w=.ok ak w:=by
 obtain⟨i,hi⟩:∃i,Tryz.prog.info? 3=u i:=fM.1 vI;rw[run_equalIn_array w 9999 _ _ Tryz.underlying73 hi,show Tryz.prog.cellsOf 3=1 by kernel_rfl];have key:∀x:Y,(Op.equalIn 9999 3 x x).run ao w=.ok ak w:=λx=>by rw[run_equalIn_int w 9998 3 ah ah x x ek];simp
 have e:∀(l:L Y)(j:V)(x:Y),l[j]?=u x->(part 3 (l.map<|aj ah).toArray<|j*1).run ao w=.ok (aj ah x) w:=λl j x g=>run_part_plain w vI (by simp[g]);have p0:=e [a,b,c,d] 0 a rfl;have p1:=e [a,b,c,d] 1 b rfl;have f:=e [a,b,c,d] 2 c rfl;have p3:=e [a,b,c,d] 3 d rfl;simp only[List.map_cons,List.map_nil]at p0 p1 f p3;simp only[show bI 4=[0,1,2,3]from rfl,Op.eqItems,Sem.run_bind,p0,p1,f,p3,key,Result.andThen_ok,gj,Bool.false_eq_true,DP,Sem.run_pure]
def Yy(w:ai)(b0 b1:I)(b d c a:Y):aZ ao 56 #[aM #[b0,b1,b,d,c,a],aM #[b0,b1,b,d,c,a]] w λr f=>r=aX ak/\Below w w f:=by have e:Below w w<|aD w<|ay #[b0,b1,b,d,c,a] 75:=kI;have b2:=dD e F0<|ay #[b0,b1,b,d,c,a] 75;have hs:=λw=>agc w b d c a;go_enter Tryz.func56,Tryz.ntmps56;go_wp2_with fail;go_ret;exact⟨rfl,b2⟩
section
variable(W s e x:V)(c:jH)(E:jL)(w1:ai)
def ahU(B:V)(i C1 C2:Y)(wh:I)(h1:BU w1 s e x c E)(r1:je w1 B 105 5<|lc [aj ah 2,i,C1,C2,wh]):wi.wp ao (Jd w1) ⟨xo W s B 2 i C1 C2 wh,[]⟩ w1:=by
 have b1:Below w1 w1 w1:=jQ;have t0:=r1.el 0;simp only[wi,yZ,vX,dV,aA,ju,jm,kG,mR,xo,xF];go_wp2_with fail;rename_i K1 M;refine CU (λH=>Below w1 w1 H) (SR s B e 0 w1 75 6 i (tJ (jF i 0<|(c.D.nl:Y)-1) 5) [(qI c E i).dn,(qI c E i).ab,((qI c E i).r 0),((qI c E i).r 1),((qI c E i).r 2),((qI c E i).r 3)]) ?hF ?hob ?hend;case hF=>exact lD
 case hob=>intro a z g hS;have d:a.tmps.size=174:=hS.jB;have e1:=hS.kD 1 qO;have e5:=hS.kD 5 qO;have t:=h1.below g;have S:=t.c0;have P:=(r1.below g).el 1;have p:=g.size;exact .c (λf=>vq g d<|xk e1)<|.c (λf=>vq g d<|Hb<|f 0 rfl)<|.c (λf=>vq g d<|W3<|f 1 rfl)<|.c (λf=>vq g d<|SX (f 2 rfl) S)<|.c (λf=>vq g d<|Jb e5)<|.c (λf=>vq g d<|Ed (f 4 rfl) P)<|.c (λf=>by refine yP (aho (f 3 rfl)<|f 5 rfl) (t.r1 z jQ i) ?_;rintro r aa⟨rfl,F⟩;exact⟨_,rfl,aE g<|aO F p,λk s _ h=>SR.below F k s h,_,rfl,nu _<|by rw[d];decide⟩)<|.c (λf=>vq g d<|xk<|f 6 rfl)<|.c (λf=>vq g d<|Mh<|f 7 rfl)<|.c (λf=>vq g d<|Ky<|f 7 rfl)<|.c (λf=>by exact mZ (Xc) ⟨dD g p _,λk s _ h=>SR.below kI k s h,_,rfl,z,_,nu _<|by rw[d];decide,p,lZ z [au,au,kQ,kQ,kQ,kQ] 75⟩)<|.c (λf=>by have O:=f 8 rfl;let⟨N,cc,o,m,l⟩:=f 10 rfl;refine DV (WI o O (l.el _) (l.el _) (l.el _) (l.el _) (l.el _) (l.el _) l.kr) ?_;have s0:=l.jl 0 (qI c E i).dn;have s1:=s0.jl 1 (qI c E i).ab;have s2:=s1.jl 2<|(qI c E i).r 0;have s3:=s2.jl 3<|(qI c E i).r 1;have R:=s3.jl 4<|(qI c E i).r 2;have T:=R.jl 5<|(qI c E i).r 3;refine⟨(az (az (az (az (az (az g m _) m _) m _) m _) m _) m _),λk s hk Q=>(SR.jl _ _ _ k s hk<|SR.jl _ _ _ k s hk<|SR.jl _ _ _ k s hk<|SR.jl _ _ _ k s hk<|SR.jl _ _ _ k s hk<|SR.jl _ _ _ k s hk Q),J,rfl,N,o,T.jY λj hj=>?_⟩;(have:j=0\/j=1\/j=2\/j=3\/j=4\/j=5:=A);rcases this with rfl|rfl|rfl|rfl|rfl|rfl<;>rfl)<|.c (λf=>vq g d<|GY<|f 9 rfl)<|.n
 case hend=>intro a H g hS b;obtain⟨ad,cc,v,m,-⟩:=b 10;let⟨ac,o,w⟩:=b 11;obtain rfl:=Ge v o;have G:=Ex hS<|.c 52 (b 0)<|.c 53 (b 1)<|.c 54 (b 2)<|.c 55 (b 3)<|.c 56 (b 4)<|.c 57 (b 5)<|.c 58 (b 6)<|.c 51 (b 7)<|.c 59 (b 8)<|.c 60 (b 9)<|.c 8 o<|.c 9 (b 12)<|.n;simp only[dK,cr,cN,cO,cT]at G;subst G;apply M _ _;clear M;have h2:=h1.below g;have r2:=r1.below g;have b2:=aE b1<|aO g b1.size;have rA:=w;go_wp2_with fail;rename_i K2 K;refine CU (λwy=>Below H H wy) (SR s B x 1 H 75 6 i (tJ (jF i 0<|(c.D.nl:Y)-1) 5) [(qI c E i).dn,(qI c E i).ab,((qI c E i).r 0),((qI c E i).r 1),((qI c E i).r 2),((qI c E i).r 3)]) ?hF ?hob ?hend;(case hF=>exact lD);(case hob=>intro a z g hS;have d:a.tmps.size=174:=hS.jB;have e1:=hS.kD 1 qO;have e5:=hS.kD 5 qO;have t:=h2.below g;have S:=t.c1;have P:=(r2.below g).el 1;have p:=g.size;exact .c (λf=>vq g d<|xk e1)<|.c (λf=>vq g d<|Hb<|f 0 rfl)<|.c (λf=>vq g d<|Qc<|f 1 rfl)<|.c (λf=>vq g d<|NQ (f 2 rfl) S)<|.c (λf=>vq g d<|Jb e5)<|.c (λf=>vq g d<|Ed (f 4 rfl) P)<|.c (λf=>by refine yP (ZI (f 3 rfl)<|f 5 rfl) (t.r2 z jQ i) ?_;rintro r aa⟨rfl,F⟩;exact⟨_,rfl,aE g<|aO F p,λk s _ h=>SR.below F k s h,_,rfl,nu _<|by rw[d];decide⟩)<|.c (λf=>vq g d<|xk<|f 6 rfl)<|.c (λf=>vq g d<|Mh<|f 7 rfl)<|.c (λf=>vq g d<|Ky<|f 7 rfl)<|.c (λf=>by exact mZ (Xc) ⟨dD g p _,λk s _ h=>SR.below kI k s h,_,rfl,z,_,nu _<|by rw[d];decide,p,lZ z [au,au,kQ,kQ,kQ,kQ] 75⟩)<|.c (λf=>by have O:=f 8 rfl;let⟨N,cc,o,m,l⟩:=f 10 rfl;refine DV (WI o O (l.el _) (l.el _) (l.el _) (l.el _) (l.el _) (l.el _) l.kr) ?_;have s0:=l.jl 0 (qI c E i).dn;have s1:=s0.jl 1 (qI c E i).ab;have s2:=s1.jl 2<|(qI c E i).r 0;have s3:=s2.jl 3<|(qI c E i).r 1;have R:=s3.jl 4<|(qI c E i).r 2;have T:=R.jl 5<|(qI c E i).r 3;refine⟨(az (az (az (az (az (az g m _) m _) m _) m _) m _) m _),λk s hk Q=>(SR.jl _ _ _ k s hk<|SR.jl _ _ _ k s hk<|SR.jl _ _ _ k s hk<|SR.jl _ _ _ k s hk<|SR.jl _ _ _ k s hk<|SR.jl _ _ _ k s hk Q),J,rfl,N,o,T.jY λj hj=>?_⟩;(have:j=0\/j=1\/j=2\/j=3\/j=4\/j=5:=A);rcases this with rfl|rfl|rfl|rfl|rfl|rfl<;>rfl)<|.c (λf=>vq g d<|GY<|f 9 rfl)<|.n);case hend=>intro a wz g hS b;obtain⟨N,cc,v,m,-⟩:=b 10;let⟨X',o,w⟩:=b 11;obtain rfl:=Ge v o;have G:=Ex hS<|.c 62 (b 0)<|.c 63 (b 1)<|.c 64 (b 2)<|.c 65 (b 3)<|.c 66 (b 4)<|.c 67 (b 5)<|.c 68 (b 6)<|.c 61 (b 7)<|.c 69 (b 8)<|.c 70 (b 9)<|.c 10 o<|.c 11 (b 12)<|.n;simp only[dK,cr,cN,cO,cT]at G;subst G;apply K _ _;clear K;have q:=rA.below g;have b3:=aE b2<|aO g b2.size;have y0:=q.el 0;have y1:=q.el 1;have y2:=q.el 2;have y3:=q.el 3;have y4:=q.el 4;have y5:=q.el 5;have v0:=w.el 0;have v1:=w.el 1;have v2:=w.el 2;have v3:=w.el 3;have v4:=w.el 4;have v5:=w.el 5;go_wp2_with fail;apply aF (Yy _ _ _ _ _ _ _);rintro r w5⟨rfl,C⟩;have b4:=aE b3<|aO C b3.size;clear b3 C;go_wp2_with fail;exact⟨rfl,rfl,b4⟩
end
end
section
open Go.RowKit Go.Maps
def lj.EP{S e:V->U}{w:ai}{v:y}{k n:V}{f:V->Y}(h:lj S w v k n f){B:V}{t:aY}(g:qm B w v t)(hs:∀b,B<=b->pH w b t->e b):lj e w v k n f:=by obtain⟨a,cap,rfl,i,j⟩:=h;refine⟨a,cap,rfl,i,λl=>?_⟩;obtain⟨b,off,rfl,_,d,c⟩:=j l;exact⟨b,off,rfl,hs b (g _ _ _ rfl).1 (g _ _ _ rfl).2,d,c⟩
def oU.EP{S m:V->U}{w:ai}{v:y}{n:V}{ts:V->jE}(h:oU S w v n ts){B:V}(z:vw B w v n)(hs:∀b t,B<=b->pH w b t->t=91\/t=3\/t=159\/t=161->m b):oU m w v n ts:=by
 let⟨G,g,o,t0,t1,t2,t3⟩:=z;obtain⟨a,cap,rfl,D,p⟩:=h;refine⟨a,cap,rfl,D,λq=>?_⟩;obtain⟨b,off,rfl,_,l,vs,d,k⟩:=p q;injection o with e _ _;injection e with e;injection e with r s;subst r s;have c:∀j,j<n*4->vs j=g j:=λj F=>pC
 refine⟨b,0,rfl,hs b 91 t0 t1<|aP rfl,l,vs,d,λi hi=>?_⟩;let⟨q1,q2,E,C⟩:=t3 i hi;let⟨r1,r2,r3,r4⟩:=k i hi;rw[c (i*4) A]at r1⊢;rw[c (i*4+1) A]at r2⊢;rw[c (i*4+2) A]at r3⊢;rw[c (i*4+3) A]at r4⊢;exact⟨r1.EP q1 λb x f=>hs b 3 x f (aH<|aP rfl),r2.EP q2 λb x f=>hs b 3 x f (aH<|aP rfl),r3.EP E λb x f=>hs b 159 x f (aH<|aH<|aP rfl),r4.EP C λb x f=>hs b 161 x f (aH<|aH<|aH rfl)⟩
def A9(z:V)(O:V->V)(B nb K R:V)(M:V->V)(b:V):V:=if b<B then O b else if b=K then z+40 else if b=R then z+41 else if b=M 0 then z else if 1<=nb/\b=M 1 then z+10 else if 2<=nb/\b=M 2 then z+20 else if 3<=nb/\b=M 3 then z+30 else 0
def Tr(z:V)(O:V->V){B nb K R:V}{M:V->V}{b:V}(h:b<B):A9 z O B nb K R M b=O b:=rW h
section
variable{B:V}{w:ai}{e:V}{D:jM}{a b c:Y}{vB vL:y}{K R:V}{M:V->V}{ns:V}{fs:V->Y}
def yT.nR(h:yT B w e D a b c vB vL K R M ns fs)(jX:D.nb<=3)(z:V)(O:V->V):A9 z O B D.nb K R M K=z+40/\A9 z O B D.nb K R M R=z+41/\(∀p,p<=D.nb->A9 z O B D.nb K R M (M p)=z+p*10):=by
 have i:=h.lo;have k:=h.OE;have j:=h.SV;have g:=h.OC;have f:=λp d=>(h.pQ p d).1;refine⟨?_,?_,λp d=>?_⟩;.unfold A9;grind
 .unfold A9;grind
 .have hk:=f p d;unfold A9;rw[jz,jz,jz];(have:p=0\/p=1\/p=2\/p=3:=A);rcases this with rfl|rfl|rfl|rfl;(.simp);(.have i1:=h.Br 0 1 A d;grind);(.have i1:=h.Br 0 2 A d;have i2:=h.Br 1 2 A d;grind);.have i1:=h.Br 0 3 A d;have i2:=h.Br 1 3 A d;have i3:=h.Br 2 3 A d;grind
def yT.ZM(h:yT B w e D a b c vB vL K R M ns fs){x:V}{t:aY}(g:pH w x t)(p:V)(f:p<=D.nb):x≠M p:=by rintro rfl;let⟨x,fr,i⟩:=g;let⟨_,⟨j,d,k,_⟩,_⟩:=(h.pQ p f).2.2;grind
def aic(j:V):Cq j=FN zZ (j%6):=by unfold Cq FN zZ;grind
def yT.ZA{W C Kk:V}(h:yT B w e D (W:V) (C:V) (Kk:V) vB vL K R M ns fs)(uW:ns<=100){z:V}(hz:1<=z){O:V->V}(P:yS z O 0)(hZ:Zero w)(hB:0<B)(oK:O K=z+40)(oR:O R=z+41)(oM:∀p,p<=D.nb->O (M p)=z+p*10)(oT:∀b t,B<=b->pH w b t->t=118\/t=91\/t=3\/t=159\/t=161->O b=0):wT z O w e ⟨D,W,C,Kk⟩ vB vL K R<|tW D ns fs:=by
 have h1:=h.lo;have m:∀b t,B<=b->pH w b t->t=118\/t=91\/t=3\/t=159\/t=161->Fz z O b:=λb t x l k=>⟨Ji hz<|oT b t x l k,oT b t x l k⟩;have G:=h.vb.EP h.tb λb x l=>m b 3 x l E1;have N:=h.vl.EP h.la λb t x l k=>m b t x l (aH k);have F:=m e 118 h1 h.jT.ty<|aP rfl;refine⟨⟨sD D e M<|D.nb+1,λT d=>?_,oK,oR,h.jo,λp s E hs=>?_,h.kO.jY λj _=>aic j⟩,?_,?_,hZ,aN hB<|bh h1<|Nat.le_of_lt h.jT.lt⟩;. (have jZ:∀j v,aq w (e j X)=u v->aq T (e j X)=u v:=λj v q=>by rw[d.jP F h.jT.lt];exact q);refine⟨⟨aN h.jT.lt d.jB,jZ _ _<|h.jT.el _,jZ _ _<|h.jT.el _,(G.jr d).rd,(N.jr d).rd⟩,jZ _ _<|h.jT.el _,jZ _ _<|h.jT.el _,jZ _ _<|h.jT.el _,jZ _ _<|h.jT.el _,jZ _ _<|h.jT.el _⟩
 .show nP _ _ _ _ _ _ (sD D e M (D.nb+1)<|p*10+s) _;rw[Nv D e M (Nat.lt_succ_of_le E) hs];let⟨t1,t2,t3⟩:=h.pQ p E;unfold nP Dr;by_cases e0:s=0;(.rw[rW e0,rW e0];let⟨Dm,d1,d2⟩:=t3;exact⟨M p,rfl,oM p E,t2,Dm,d1.mono uW,d2⟩);rw[BW e0,BW e0];by_cases e1:s=1;(.grind);rw[BW e1,BW e1];by_cases e2:s=2;(.grind);rw[BW e2,BW e2];by_cases e3:s=3;(.rw[rW e3,rW e3];rfl);rw[BW e3,BW e3];split;(.exact mK.pU _ _ _ _);split;(.exact pj.pU _ _ _ _);.exact pj.pU _ _ _ _
 .let⟨S,vs,q,l0,l1,l2,l3⟩:=h.la;refine⟨S,0,D.nl,q,λT d j hj=>⟨vs j,?_,?_⟩⟩;(.rw[bV,d.jP (m S 91 l0 l1 E1) l1.lt];exact l2 j hj);.intro i o n f;(have:∃t,(t=3\/t=159\/t=161)/\B<=i.block/\pH w i.block t:=by have aa:j<D.nl*4:=hj;(have Q:j=j/4*4+j%4:=A);have hm:j%4<4:=dW _ A;let⟨q1,q2,q3,q4⟩:=l3 (j/4) (show j/4<D.nl by omega);(have:j%4=0\/j%4=1\/j%4=2\/j%4=3:=A);rw[Q]at f;rcases this with r|r|r|r<;>rw[r]at f;(.exact⟨3,aP rfl,q1 i o n f⟩);(.exact⟨3,aP rfl,q2 i o n f⟩);(.exact⟨159,aH<|aP rfl,q3 i o n f⟩);.exact⟨161,aH<|aH rfl,q4 i o n f⟩);let⟨t,ht,hb,g⟩:=this;have H:=m i.block t hb g<|aH<|aH ht;let⟨x,fr,hx⟩:=g.jg<|d.jg _ H g.lt;exact⟨x,t,fr,hx⟩
 .exact P
end
def Wj(nb:V)(fb fs:V->Y)(p k:V):∀n,(∀j,j<n->mH (fs<|2*j+1))->qJ nb fb fs n p k=ak->mH (qQ nb fb fs n p k)|0,_,h=>by cases h|n+1,a,h=>by unfold qJ at h;unfold qQ;split;(.exact a n A);.rename_i b;rw[BW b]at h;exact Wj nb fb fs p k n (λj c=>a j A) h
def vR.Ps(c:jH)(ns:V)(fs:V->Y)(b:∀j,j<ns->mH (fs<|2*j+1)):vR c<|tW c ns fs:=by refine⟨λp g=>⟨λk hk=>Wj _ _ _ _ _ ns b hk,λe d=>(by cases d),λq x a=>(by cases a),λx a=>(by cases a)⟩,λi j f=>?_⟩;show mH 0;exact WalkArith.wf_i64 A
def Inv.Ps{c:jH}(H:mu c)(b:EJ c)(ns:V)(fs:V->Y)(hk:∀j,j<ns->0<=fs (2*j)/\fs (2*j)<=99)(a:∀j,j<ns->mH (fs<|2*j+1)):Inv c (yv fs ns,Bx fs ns)<|tW c ns fs:=⟨H,b,amk H ns fs hk,vR.Ps c ns fs a,λp _=>anW c H ns fs p⟩
end
end Go.Proofs.YtldeiiffabfmeaaGreatDoor
namespace Go.Rel
section
open Go.Conc Go.ConcN
variable{ok:jO}{ρ ρ':jG}{P:dE}
def yE(W:ai)(b:V):I:=match W.heap[b]? with|u (ay ..)=>ak|_=>au
mutual def kW(W:ai):y->y|bD b=>b|aj k n=>aj k n|dN s=>dN s|ar X=>ar X|ae X n c=>ae X n c|dz X=>dz X|dO=>dO|ar (u a)=>if yE W a.block then ar a else cx|ae (u a) n c=>if yE W a.block then ae a n c else if n=0/\c=0 then ae Ai 0 0 else cx|aM ⟨x⟩=>aM ⟨yg W x⟩|aU ⟨x⟩=>aU ⟨yg W x⟩|_=>cx def yg(W:ai):L y->L y|[]=>[]|v::vs=>kW W v::yg W vs end
def Vf(W:ai)(l:L y):yg W l=l.map (kW W):=by induction l with|nil=>simp[yg]|cons v vs a=>simp[yg,a]
def BL(W:ai):jG:=λb a=>b=a/\yE W b=ak
mutual theorem ael(W:ai):∀v:y,jC ok (BL W) (kW W v) v|bD b=>by rw[kW];exact .bool b|aj k n=>by rw[kW];exact .int k n|dN s=>by rw[kW];exact .string s|ar X=>by rw[kW];exact .su|ae X n c=>by rw[kW];exact .qd n c|dz X=>by rw[kW];exact .sF|dO=>by rw[kW];exact .nilIface|ar (u a)=>by rw[kW];split;(.exact .ptr ⟨⟨rfl,by assumption⟩,rfl,rfl⟩);.exact .mj n7|ae (u a) n c=>by rw[kW];split;(.exact .slice ⟨⟨rfl,by assumption⟩,rfl,rfl⟩ n c);.split;(.obtain⟨rfl,rfl⟩:=‹n=0/\c=0›;exact .dead _);.exact .mj n7|aM ⟨x⟩=>by rw[kW];exact .agg<|Hl W x|aU ⟨x⟩=>by rw[kW];exact .tuple<|Hl W x|dz (u _)=>by rw[kW.eq_def];exact .mj n7|.chan _=>by rw[kW.eq_def];exact .mj n7|bK _ _ _=>by rw[kW.eq_def];exact .mj n7|.iface _ _=>by rw[kW.eq_def];exact .mj n7|.float _ _=>by rw[kW.eq_def];exact .mj n7|.complex _ _ _=>by rw[kW.eq_def];exact .mj n7|cx=>by rw[kW.eq_def];exact .mj n7 theorem Hl(W:ai):∀v:L y,kH ok (BL W) (yg W v) v|[]=>by rw[yg];exact .nil|v::vs=>by rw[yg];exact .cons (ael W v)<|Hl W vs end
mutual theorem akg(W:ai):∀v:y,jC ok (BL W) (kW W v)<|kW W v|bD b=>by rw[kW];exact .bool b|aj k n=>by rw[kW];exact .int k n|dN s=>by rw[kW];exact .string s|ar X=>by rw[kW];exact .su|ae X n c=>by rw[kW];exact .qd n c|dz X=>by rw[kW];exact .sF|dO=>by rw[kW];exact .nilIface|ar (u a)=>by rw[kW];split;(.exact .ptr ⟨⟨rfl,by assumption⟩,rfl,rfl⟩);.exact .mj n7|ae (u a) n c=>by rw[kW];split;(.exact .slice ⟨⟨rfl,by assumption⟩,rfl,rfl⟩ n c);.split;(.obtain⟨rfl,rfl⟩:=‹n=0/\c=0›;exact .dead _);.exact .mj n7|aM ⟨x⟩=>by rw[kW];exact .agg<|Nq W x|aU ⟨x⟩=>by rw[kW];exact .tuple<|Nq W x|dz (u _)=>by rw[kW.eq_def];exact .mj n7|.chan _=>by rw[kW.eq_def];exact .mj n7|bK _ _ _=>by rw[kW.eq_def];exact .mj n7|.iface _ _=>by rw[kW.eq_def];exact .mj n7|.float _ _=>by rw[kW.eq_def];exact .mj n7|.complex _ _ _=>by rw[kW.eq_def];exact .mj n7|cx=>by rw[kW.eq_def];exact .mj n7 theorem Nq(W:ai):∀v:L y,kH ok (BL W) (yg W v)<|yg W v|[]=>by rw[yg];exact .nil|v::vs=>by rw[yg];exact .cons (akg W v)<|Nq W vs end
def Oh(W:ai):Obj->Obj|ay x t fr=>ay (x.map<|kW W) t (0,max x.size fr.2+1)|o=>o
def nA(W:ai):ai:={W with heap:=W.heap.map<|Oh W}
def QI(W:ai)(b:V):(nA W).heap[b]?=(W.heap[b]?).map (Oh W):=by simp[nA]
def Hg(W:ai):(nA W)=W.heap.size:=by simp[nA]
def Lq(W:ai)(a:bG):aq (nA W) a=(aq W a).map (kW W):=by unfold aq;rw[QI];cases W.heap[a.block]? with|none=>rfl|some o=>cases o with|cells x t fr=>simp[ej,Oh];grind|_=>rfl
def acv(W:ai):(BL W).lB ok:=by
 refine⟨?_,?_,?_⟩;.rintro a b d⟨rfl,_⟩⟨rfl,_⟩;rfl
 .rintro a c b⟨rfl,_⟩⟨rfl,_⟩;rfl
 .rintro a b⟨rfl,_⟩_;rfl
def TY{W:ai}{b:V}(h:yE W b=ak):∃x t fr,W.heap[b]?=u (ay x t fr):=by unfold yE at h;grind
def alx{W:ai}(c:ok.lS=⟨W.heap,W.os,W.output⟩)(a:ok.gs<=W)(d:¬ok.nX):lF ok (BL W) (nA W) W:=by refine⟨acv W,⟨by rwa[Hg],a⟩,λh=>zW h d,?_,pC⟩;rintro b j⟨rfl,g⟩;let⟨x,t,fr,e⟩:=TY g;refine⟨_,_,by rw[QI,e];rfl,e,.cells ?_ t ⟨λi k f=>⟨Nat.zero_le _,Nat.lt_succ_of_lt<|aN f<|Nat.le_max_right ..⟩,λe=>by simp at e⟩⟩;have:=Hl (ok:=ok) W x.toList;rw[Vf]at this;unfold jW;simpa using this
def aeB{W:ai}{b c:V}(h:BL W b c):nI (nA W) b:=by obtain⟨rfl,a⟩:=h;let⟨x,t,fr,e⟩:=TY a;exact⟨_,t,_,by rw[QI,e];rfl,pC⟩
end
section
open Go.Conc Go.ConcN
def anT{ok:jO}{P:dE}{W:ai}(c:ok.lS=⟨W.heap,W.os,W.output⟩)(d:ok.gs<=W)(f:¬ok.nX)(i:∀g,g<ok.gs->yE W g=ak)(a:Z y):HH ok P (a.map<|kW W) a (nA W) W:=by
 have e:tL ok<|BL W:=λ_ g h=>⟨rfl,i g h⟩;have r1:jW ok (BL W) (a.map<|kW W) a:=by have:=Hl (ok:=ok) W a.toList;rw[Vf]at this;unfold jW;simpa using this
 exact⟨c,⟨BL W,r1,alx c d f,e,λb j h=>aeB h⟩⟩
end
end Go.Rel
namespace Go.Proofs.YtldeiiffabfmeaaGreatDoor
section
open Go.RowKit Go.Maps Go.Rel
def afI(W:ai):∀v∈wm,kW W v=cx:=by intro v a;simp only[wm]at a;simp only[List.mem_toArray,ft,List.not_mem_nil,or_false]at a;rcases a with rfl|rfl|rfl|rfl|rfl|rfl|rfl|rfl|rfl|rfl|rfl<;>rw[kW.eq_def]
def QA{W:ai}{t0:aY}{fr:V×V}(h:W.heap[0]?=u (ay wm t0 fr)):Zero<|nA W:=by intro o v a;rw[Lq]at a;unfold aq at a;rw[h]at a;cases hs:wm[o]? with|none=>simp[hs]at a|some b=>simp[hs]at a;rw[<-a];exact afI W b<|fp hs
def Nz{W:ai}{o:Obj}(h:W.heap[0]?=u o):0<(nA W).heap.size:=by rw[Hg];exact(fu.1 h).1
def QV{W:ai}{t0:aY}{fr:V×V}(h:W.heap[0]?=u (ay wm t0 fr))(a:Z y):HH (kJ ⟨W.heap,W.os,W.output⟩) ao (a.map<|kW W) a (nA W) W:=anT rfl (by show 1<=W.heap.size;have:=(fu.1 h).1;omega) (λh=>h) (λg b=>by(have:g=0:=by have:g<1:=b;omega);subst this;unfold yE;rw[h]) a
noncomputable def nC:aK->aK|.loop c=>c|_=>cG
def xj{b:mB}{w:ai}{a:Act}{f:L V}{Q:cf->Act->ai->U}{x l:aK}(j:Act->ai->U)(m:∀a w i d,j a w->j a (w.re i d))(h:∀i d,x.wp ao (λe a c=>e=bH/\j a c) a<|w.re i d)(hk:∀k c,j k c->me (kJ b) ao f l Q k c)(hx:Go.Rel.pY ao (qA wb) x=ak:=by kernel_rfl):me (kJ b) ao f (bu x l) Q a w:=by refine qx (mv b).nW (mv b).nR.mI<|DN (BN (mv b).nW (mv b).nR (Lz hx) (λe a c i d g=>⟨g.1,m _ _ _ _ g.2⟩) (λe a c g=>by rw[g.1];trivial) h) ?_;rintro e a c⟨rfl,h⟩;exact hk a c h
def D8{b:mB}{w:ai}{a:Act}{f:L V}{Q:cf->Act->ai->U}{x:aK}(c:cf->Act->ai->U)(l:∀e a w g d,c e a w->c e a (w.re g d))(k:∀e a w,c e a w->IB f e)(h:∀g d,x.wp ao c a<|w.re g d)(hk:∀e i j,c e i j->Q e i j)(hx:Go.Rel.pY ao (qA wb) x=ak:=by kernel_rfl):me (kJ b) ao f x Q a w:=DN (BN (mv b).nW (mv b).nR (Lz hx) l k h) hk
def yY(a:Act){d t:V}(h:d≠t)(v:y):(a.put (u d) v) t J=a t J:=by simp[cr,Array.getD_eq_getD_getElem?,h]
def Ip(a:Act)(d:n6 V)(v:y):(a.put d v).defers=a.defers:=by cases d<;>rfl
end
section
open Go.RowKit Go.Maps Go.Rel Go.Sort
def mz(hs:V->I)(v:V->Y):L y:=(bI 100).map (λk=>bD<|hs k)++(bI 100).map (λk=>aj ah<|v k)
def B4(hs:V->I)(v:V->Y):(mz hs v).length=200:=by simp[mz]
def IF(hs:V->I)(v:V->Y):∀b∈mz hs v,b.oneCell'=ak:=by intro b a;simp only[mz,dX,dy]at a;rcases a with⟨k,_,rfl⟩|⟨k,_,rfl⟩<;>rfl
def GC:(Tryz.prog.info? 73).map (·.size)=u 4:=vI
def pf(r:V->Y):L y:=[(r 0),(r 1),(r 2),(r 3)]
def QT{b a:V}:∀(vs:L y)(o:V)(w:ai),b≠a->(cY w a o vs).heap[b]?=w.heap[b]?|[],_,_,_=>rfl|v::vs,o,w,h=>by show(cY (w (a o X) v) a (o+1) vs).heap[b]?=_;rw[QT vs (o+1) _ h,eX _ _ _ _ h]
def Uv{w:ai}{b f:V}{n:V}{vs:L y}(h:w.there b 0 n)(c:b≠f):(cY w f 0 vs).there b 0 n:=by
 intro j g;have a:=QT vs 0 w c;let⟨d,e⟩:=h j g;constructor;.unfold aq at d⊢;rw[a];exact d
 .unfold eh at e⊢;rw[a];exact e
def EX{w:ai}{b T n:V}{c:V->y}(h:je w b T n c):w.there b 0 n:=λj a=>⟨by rw[bV,h.jP a];rfl,by rw[bV];exact h.kr j⟩
def U1(w:ai)(c:Z y)(t:aY){n:V}(a:c=n):(aD w<|ay c t).there w 0 n:=by have h:=lZ w c.toList t;rw[Array.toArray_toList,Array.length_toList,a]at h;exact EX h
def Cp(hs:V->I)(v:V->Y){k:V}(hk:k<100):lc (mz hs v) k=(hs k):=by unfold lc mz;grind
def CQ(hs:V->I)(v:V->Y){k:V}(hk:k<100):lc (mz hs v) (100+k)=(v k):=by unfold lc mz;rw[List.getD_eq_getElem?_getD,eZ F0];simp[hk]
def Og(r:V->Y){k:V}(hk:k<4):lc (pf r) k=(r k):=by match k,hk with|0,_|1,_|2,_|3,_=>rfl
def LB{j:V}(h:j<200):j<100\/∃k,k<100/\j=100+k:=by
 rcases Nat.lt_or_ge j 100 with a|a;.exact aP a
 .exact aH ⟨j-100,A,A⟩
def Gu{w:ai}{b T:V}{n:V}(h:je w b T n<|lc o)(d:o=n):World.rangeAt w b 0 o:=by
 intro j v c;have a:j<n:=pC
 rw[bV,h.jP a];unfold lc;grind
def je.Rq{w:ai}{b T:V}{hs:V->I}{v:V->Y}(h:je w b T 200<|lc<|mz hs v):Vz w b 0 hs v:=by
 intro k hk;refine⟨?_,?_⟩;.rw[bV,h.el _,Cp hs v hk]
 .rw[bV,h.el _,CQ hs v hk]
def je.Vv{w:ai}{b T:V}{hs:V->I}{v:V->Y}(h:je w b T 200<|lc<|mz hs v){a:V}(e:a<100)(x:I):je (w (b a X) x) b T 200<|lc<|mz (jd hs a x) v:=by
 refine(h.jl a x).jY λj d=>?_;rcases LB d with c|⟨k,hk,rfl⟩;.rw[Cp _ _ c,Cp _ _ c];unfold jd;simp
 .rw[jz,CQ _ _ hk,CQ _ _ hk]
def je.Xp{w:ai}{b T:V}{hs:V->I}{v:V->Y}(h:je w b T 200<|lc<|mz hs v){a:V}(e:a<100)(x:Y):je (w (b (100+a) X) x) b T 200<|lc<|mz hs<|jd v a x:=by
 refine(h.jl (100+a) x).jY λj d=>?_;rcases LB d with c|⟨k,hk,rfl⟩;.rw[jz,Cp _ _ c,Cp _ _ c]
 .rw[CQ _ _ hk,CQ _ _ hk];unfold jd;grind
def je.acw{w:ai}{b T:V}{r:V->Y}(h:je w b T 4<|lc<|pf r){a:V}(d:a<4)(x:Y):je (w (b a X) x) b T 4<|lc<|pf<|jd r a x:=by refine(h.jl a x).jY λj c=>?_;rw[Og _ c,Og _ c];unfold jd;grind
def je.V3{w:ai}{b T:V}{hs a:V->I}{v d:V->Y}(h:je w b T 200<|lc<|mz hs v)(e1:∀k,k<100->hs k=a k)(e2:∀k,k<100->v k=d k):je w b T 200<|lc<|mz a d:=by
 refine h.jY λj e=>?_;rcases LB e with c|⟨k,hk,rfl⟩;.rw[Cp _ _ c,Cp _ _ c,e1 _ c]
 .rw[CQ _ _ hk,CQ _ _ hk,e2 _ hk]
def amN(hs:V->I)(vl:V->Y)(a:V)(x:Y)(k:V):jd (kL hs vl) a x k=kL (jd hs a ak) (jd vl a x) k:=by unfold jd kL;grind
def ajk(hs:V->I)(vl:V->Y)(a:V)(k:V):jd (kL hs vl) a 0 k=kL (jd hs a au) vl k:=by unfold jd kL;grind
def KD(hs:V->I)(vl:V->Y)(lo:V):∀n,pF hs (kL hs vl) lo n=pF hs vl lo n|0=>rfl|n+1=>by cases h:hs (lo+n)with|true=>rw[Ml h,Ml h,KD hs vl lo n];simp[kL,h]|false=>rw[L1 h,L1 h,KD hs vl lo n]
def R9(b:V)(hs:V->I)(v:V->Y)(lo hi:V)(G:lo<=hi)(H:hi<=99)(w:ai)(l:Vz w b 0 hs v):aZ ao 147 #[ar b,aM #[(lo:V),(hi:V)]] w λr F=>r=aX (aU #[(pF hs v lo<|hi+1-lo),(rh hs lo<|hi+1-lo:V)])/\Below w w F:=by
 have g:Below w w<|aD w<|ay #[(lo:V),(hi:V)] 159:=kI;have a:b<w:=dM _ _ (l 0 A7).1;go_enter Tryz.func147,Tryz.ntmps147;go_wp2_with fail;go_loop[6,7,8](λs n k=>∃j:V,lo+j<=hi+1/\k=((lo+j:V):Y)/\s=(pF hs v lo j)/\n=(rh hs lo j:V))(λ_ _ k=>hi+1-(aQ k).toNat);exact⟨0,A7,rfl,rfl,rfl⟩;obtain⟨j,M,rfl,rfl,rfl⟩:=hrel;have B:rh hs lo j<=j:=wj _ _;have t:=S7<|WJ hs v lo j;have x:rh hs lo j<=100:=A7
 by_cases D:lo+j<=hi;.let⟨d1,d2⟩:=l (lo+j) A7;rw[bV]at d1 d2;(have d1:aq (aD w<|ay #[(lo:V),(hi:V)] 159) (b (lo+j) X)=u (bD<|hs<|lo+j):=by rw[bO g a];exact d1);(have d2:aq (aD w<|ay #[(lo:V),(hi:V)] 159) (b (100+(lo+j)) X)=u (aj ah<|v<|lo+j):=by rw[bO g a];exact d2);have o:hs (lo+j)=ak->Hid (pF hs v lo (j+1)=wrap64 (pF hs v lo j+v (lo+j))):=λh=>Ml h;have m:hs (lo+j)=au->Hid (pF hs v lo (j+1)=pF hs v lo j):=λh=>L1 h;(have e:hs (lo+j)=ak->Hid (rh hs lo (j+1)=rh hs lo j+1):=λh=>by show ku _ (j+1)=_;simp[ku,h,rh]);(have d:hs (lo+j)=au->Hid (rh hs lo (j+1)=rh hs lo j):=λh=>by show ku _ (j+1)=_;simp[ku,h,rh]);generalize pF hs v lo j=S at*;generalize rh hs lo j=N at*;generalize v (lo+j)=K at*;clear l;cases hk:hs (lo+j)with|true=>rw[hk]at d1;replace o:=o hk;replace e:=e hk;generalize c:lo+j=q at*;have i:Hid<|lo+j=q:=c;clear c;go_wp2_with fail;go_round;have:=i.out;exact⟨j+1,A7,pC,by rw[o.out],by rw[e.out];simp⟩;simp[aQ];omega|false=>rw[hk]at d1;replace m:=m hk;replace d:=d hk;generalize c:lo+j=q at*;have i:Hid<|lo+j=q:=c;clear c;go_wp2_with fail;go_round;have:=i.out;exact⟨j+1,A7,pC,by rw[m.out],by rw[d.out]⟩;simp[aQ];omega
 . (have f:j=hi+1-lo:=A7);have z:Hid<|j=hi+1-lo:=f;clear f l;generalize hS:pF hs v lo j=S at*;generalize p:rh hs lo j=N at*;have E:Hid<|_=_:=hS;have C:Hid<|_=_:=p;clear hS p;generalize c:lo+j=q at*;have i:Hid<|lo+j=q:=c;clear c;go_wp2_with fail;go_ret2;have e1:=E.out;have e2:=C.out;have e3:=z.out;simp_all
structure qX(w0 w:ai)(T C RC RR Wa Rg:V)(va vb vc vd:y)(hs0:V->I)(v0:V->Y)(hs:V->I)(v:V->Y)(r:V->Y):U where
 yR:Below w0 w0 w
 uo:w0<=T/\T<C/\C<RC/\RC<RR/\RR<Wa/\Wa<Rg
 rT:je w T 91 4<|lc [va,vb,vc,vd]
 rC:je w Wa 143 200<|lc<|mz hs0 v0
 Eh:∃c,je w RC 143 200 c
 ES:∃c,je w RR 73 4 c
 rD:je w C 143 200<|lc<|mz hs v
 rG:je w Rg 73 4<|lc<|pf r
section
variable{w0 w w1:ai}{T C RC RR Wa Rg:V}{va vb vc vd:y}{hs0:V->I}{v0:V->Y}{hs:V->I}{v:V->Y}{r:V->Y}
def qX.below(h:qX w0 w T C RC RR Wa Rg va vb vc vd hs0 v0 hs v r)(a:Below w w w1):qX w0 w1 T C RC RR Wa Rg va vb vc vd hs0 v0 hs v r:=⟨aE h.yR<|aO a h.yR.size,h.uo,h.rT.below a,h.rC.below a,h.Eh.imp λc b=>b.below a,h.ES.imp λc b=>b.below a,h.rD.below a,h.rG.below a⟩
def qX.Fe(h:qX w0 w T C RC RR Wa Rg va vb vc vd hs0 v0 hs v r){A:V}(d:A<4)(x:Y):qX w0 (w (Rg A X) x) T C RC RR Wa Rg va vb vc vd hs0 v0 hs v<|jd r A x:=by
 have o:=h.uo;have ne:=λb e=>by show b≠Rg;omega
 exact⟨az h.yR (show w0<=Rg by omega) _,o,h.rT.nF (ne T A7) _,h.rC.nF (ne Wa A7) _,h.Eh.imp λc a=>a.nF (ne RC A7) _,h.ES.imp λc a=>a.nF (ne RR A7) _,h.rD.nF (ne C A7) _,h.rG.acw d x⟩
def qX.has(h:qX w0 w T C RC RR Wa Rg va vb vc vd hs0 v0 hs v r){a:V}(f:a<100)(x:I):qX w0 (w (C a X) x) T C RC RR Wa Rg va vb vc vd hs0 v0 (jd hs a x) v r:=by have o:=h.uo;have ne:∀b,b≠C->b≠((C a X):bG).block:=λb e=>e;exact⟨az h.yR (show w0<=C by omega) _,o,h.rT.nF (ne T A7) _,h.rC.nF (ne Wa A7) _,h.Eh.imp λc d=>d.nF (ne RC A7) _,h.ES.imp λc d=>d.nF (ne RR A7) _,h.rD.Vv f x,h.rG.nF (ne Rg A7) _⟩
def qX.nk(h:qX w0 w T C RC RR Wa Rg va vb vc vd hs0 v0 hs v r){a:V}(f:a<100)(x:Y):qX w0 (w (C (100+a) X) x) T C RC RR Wa Rg va vb vc vd hs0 v0 hs (jd v a x) r:=by have o:=h.uo;have ne:∀b,b≠C->b≠((C (100+a) X):bG).block:=λb e=>e;exact⟨az h.yR (show w0<=C by omega) _,o,h.rT.nF (ne T A7) _,h.rC.nF (ne Wa A7) _,h.Eh.imp λc d=>d.nF (ne RC A7) _,h.ES.imp λc d=>d.nF (ne RR A7) _,h.rD.Xp f x,h.rG.nF (ne Rg A7) _⟩
def qX.jY(h:qX w0 w T C RC RR Wa Rg va vb vc vd hs0 v0 hs v r){a:V->Y}(e:∀k,k<100->v k=a k):qX w0 w T C RC RR Wa Rg va vb vc vd hs0 v0 hs a r:=⟨h.yR,h.uo,h.rT,h.rC,h.Eh,h.ES,h.rD.V3 (λ_ _=>rfl) e,h.rG⟩
end
def ajT{t:jE}(d:wN t){m:kC}(a:m.nx<t.nc)(hk:t.c (4*m.nx)≠10):(qg t m).ab=m.ab:=by let⟨kk,b,e,f⟩:=d.rm a;unfold qg vh;grind
def amQ{t:jE}{m:kC}(hk:t.c (4*m.nx)=10):qg t m={m with ab:=ak,ch:=[],nx:=t.nc}:=by unfold qg vh;rw[hk];rfl
def Ty{t:jE}{m:kC}(h:¬m.nx<t.nc):∀f,sk t f m=m|0=>rfl|f+1=>by unfold sk;rw[BW h]
def Cb{b:V}(a:j<=b):∀(vs:L y)(o:V)(w:ai),Below j j w->Below j j (cY w b o vs)|[],_,_,h=>h|v::vs,o,w,h=>Cb a vs (o+1) _ (az h a v)
def VU{b T n:V}:∀(vs:L y)(o:V)(w:ai)(c:V->y),je w b T n c->je (cY w b o vs) b T n (λj=>if o<=j/\j<o+vs then lc vs (j-o)else c j)|[],o,w,c,h=>h.jY λj _=>by grind|v::vs,o,w,c,h=>by refine(VU vs (o+1) _ _<|h.jl o v).jY λj _=>?_;by_cases a:o+1<=j/\j<o+1+vs;(.rw[rW a,rW Fk];unfold lc;grind);.rw[BW a];by_cases d:j=o;(.subst d;rw[rW rfl,nD];simp[lc]);grind
section
variable{ev:dt->y}{w:ai}{d:n6 Tmp}{ty:aY}{ps:String}{af:Z Edge}{g:n6<|V×I}{x x1:dt}
def acR{T o:V}{b:n6 bG}{n p:V}(h:ev x=ar (T o X))(a:aq w (T o X)=u (ae b n p)):(bN ev ⟨d,.load 25 x,ty,ps,af,g⟩).run ao w=.ok (.value<|ae b n p) w:=by simp[bN,go_sem,h,a]
def akt{b o i n p:V}(hi:i<n)(h:ev x=ae (b o X) n p)(a:ev x1=(i:V)):(bN ev ⟨d,.indexAddr 25 x x1,ty,ps,af,g⟩).run ao w=.ok (.value<|ar<|b (o+i*4) X) w:=by
 have i2:(i)<(n):=A
 simp[bN,go_sem,h,a,i2]
def Z8{b o:V}{e a f c:y}(h:ev x=ar (b o X))(c0:aq w (b o X)=u e)(c1:aq w (b (o+1) X)=u a)(c2:aq w (b (o+2) X)=u f)(c3:aq w (b (o+3) X)=u c):(bN ev ⟨d,.load 91 x,ty,ps,af,g⟩).run ao w=.ok (.value<|aM #[e,a,f,c]) w:=by simp[bN,go_sem,h,c0,c1,c2,c3]
def ajn{T o:V}(h:ev x=ar (T o X)):(bN ev ⟨d,.nilCheck x,ty,ps,af,g⟩).run ao w=.ok (.value<|ar<|T o X) w:=by simp[bN,go_sem,h]
def ZK{a b c:y}(h:ev x=aU #[a,b,c]):(bN ev ⟨d,.extract x 0,ty,ps,af,g⟩).run ao w=.ok (.value a) w:=by simp[bN,go_sem,h]
def adm{c a b:y}(h:ev x=aU #[c,a,b]):(bN ev ⟨d,.extract x 1,ty,ps,af,g⟩).run ao w=.ok (.value a) w:=by simp[bN,go_sem,h]
def ahJ{c b a:y}(h:ev x=aU #[c,b,a]):(bN ev ⟨d,.extract x 2,ty,ps,af,g⟩).run ao w=.ok (.value a) w:=by simp[bN,go_sem,h]
def ako:(bN ev ⟨d,.alloc 73,ty,ps,af,g⟩).run ao w=.ok (.value<|ar w) (aD w<|ay Jk 73):=by simp[bN,go_sem]
end
def Gv{w:ai}{b e T n:V}{c:V->y}(h:je w b T n c)(a:b≠e)(o:V)(vs:L y):je (cY w e o vs) b T n c:=h.jg<|QT vs o w a
def JL{w:ai}{b T n:V}{c:V->y}(h:je w b T n c){vs:L y}(a:vs=n):je (cY w b 0 vs) b T n<|lc vs:=(VU vs 0 w c h).jY λj e=>pC
def Ht{c:mB}{w:ai}{a:Act}{r:L V}{Q:cf->Act->ai->U}{x N:aK}{id k d:V}{f:FuncId}{K:Z dt}{ts:Z aY}{fn:Func}(hx:x=dk id ((jD x).take k++lE (jD x) k::(jD x).drop (k+1)).toArray au)(G:(lE (jD x) k).op=.call ⟨.value<|.func f,K,ts⟩)(hg:(lE (jD x) k).guard=X)(hd:(lE (jD x) k).dst=u d)(H:∀a∈K,mV (kJ c) a)(hf:Tryz.prog.funcs[f]?=u fn)(T:fn.body.isNone=au)(W:(fn.name== "runtime.NumGoroutine")=au)(E:∀o∈(jD x).take k++oh (lE (jD x) k)::(jD x).drop (k+1),qh (kJ c) ao o)(t:Act->U)(p:∀ops g,g.heap=w.heap->du ao ops (λex s b=>ex=bH/\t s/\b=g) ((jD x).take k) a g){l:Z y}(m:∀s,t s->K.map s.eval=l){z:y->ai->U}(hcall:nO (kJ c) ao f l w z)(M:y->Act->U)(n:∀ops s v g,t s->(∃b,z v b)->du ao ops (λex h b=>ex=bH/\M v h/\b=g) ((jD x).drop<|k+1) (s.put (u d) v) g)(hk:∀v b h,z v b->M v h->me (kJ c) ao r N Q h b):me (kJ c) ao r (bu x N) Q a w:=by
 have F:=(mv c).nW;have C:=(mv c).nR;have B:=C.mI;apply qx F B;rw[hx];apply Lg F C rfl G hg H hf T W E (R:=λh g=>t h/\∃i d,g=w.re i d) (λh g i d j=>⟨j.1,by obtain⟨aa,P,rfl⟩:=j.2;exact⟨i,d,rfl⟩⟩) (λh g i d j=>tS j i d) (λi d=>xp (λe s g j=>⟨j.1,j.2.1,i,d,j.2.2⟩) _<|p _ (w.re i d) rfl);rintro h g⟨O,i,P,rfl⟩;refine⟨z,?_,?_⟩;.rw[m h O];exactλcs=>(hcall cs).re i P
 intro v D S q d2;rw[hd];refine xp ?_ _<|n _ h v (D.re q d2) O ⟨D,S⟩;rintro ex s w3⟨rfl,hB,rfl⟩;exact⟨rfl,tS (hk v D s S hB) q d2⟩
def amX{nb:V}{fb:V->Y}{a b c:Y}{nl:V}{ts:V->jE}(d:tV nb fb a b c=ak)(f:sr nl ts=X):mu ⟨⟨nb,fb,nl,ts⟩,a.toNat,b.toNat,c.toNat⟩:=by have g:=d;simp only[tV,bQ,Ak]at g;exact⟨agX d f,show 1<=a.toNat/\a.toNat<=8 by omega,show 1<=b.toNat/\b.toNat<=8 by omega,show 1<=c.toNat/\c.toNat<=4 by omega⟩
end
section
open Go.RowKit
section
variable(W s e x:V)(c:jH)(E:jL)(w1:ai)
def amM(B:V)(p C1 C2:Y)(wh:I)(T:BU w1 s e x c E)(r1:je w1 B 105 5<|lc [aj ah 4,p,C1,C2,wh]):wi.wp ao (Jd w1) ⟨xo W s B 4 p C1 C2 wh,[]⟩ w1:=by
 have b1:ax w1 w1 w1:=jQ;have t0:aq w1 B=u (aj ah 4):=r1.el 0;simp only[wi,yZ,vX,dV,aA,ju,jm,kG,mR,xo,xF];go_wp2_with fail;rename_i K1 G;refine CU (λw=>ax w1 w1 w) (SR s B e 0 w1 67 4 p (tJ (jF p 0 c.D.nb) 4) [(sH c E p).1,(sH c E p).2.1,(sH c E p).2.2.1,(sH c E p).2.2.2]) ?hF ?hob ?hend;case hF=>exact lD
 case hob=>intro a t g hS;have d:a.tmps.size=174:=hS.jB;have e1:a.eval (bj 1)=ar s:=hS.kD 1 qO;have e5:a.eval (bj 5)=ar B:=hS.kD 5 qO;have v:=T.below g;have Q:=v.c0;have O:aq t (B 1 X)=u p:=(r1.below g).el 1;have o:w1<=t.heap.size:=g.size;exact .c (λf=>vq g d<|xk e1)<|.c (λf=>vq g d<|Hb<|f 0 rfl)<|.c (λf=>vq g d<|W3<|f 1 rfl)<|.c (λf=>vq g d<|SX (f 2 rfl) Q)<|.c (λf=>vq g d<|Jb e5)<|.c (λf=>vq g d<|Ed (f 4 rfl) O)<|.c (λf=>by refine yP (adU (f 3 rfl)<|f 5 rfl) (v.l1 t jQ p) ?_;rintro r S⟨rfl,K⟩;exact⟨_,rfl,aE g<|aO K o,λk s _ h=>SR.below K k s h,_,rfl,nu _<|by rw[d];decide⟩)<|.c (λf=>vq g d<|xk<|f 6 rfl)<|.c (λf=>vq g d<|Mh<|f 7 rfl)<|.c (λf=>vq g d<|Ky<|f 7 rfl)<|.c (λf=>by exact mZ (Wt) ⟨dD g o _,λk s _ h=>SR.below kI k s h,_,rfl,t,_,nu _<|by rw[d];decide,o,lZ t [aj ah 0,aj ah 0,aj ah 0,aj ah 0] 67⟩)<|.c (λf=>by have N:=f 8 rfl;let⟨M,R,m,i,l⟩:=f 10 rfl;refine DV (VJ m N (l.el _) (l.el _) (l.el _) (l.el _) l.kr) ?_;have s0:=l.jl 0 (sH c E p).1;have s1:=s0.jl 1 (sH c E p).2.1;have s2:=s1.jl 2 (sH c E p).2.2.1;have s3:=s2.jl 3 (sH c E p).2.2.2;refine⟨(az (az (az (az g i _) i _) i _) i _),λk s hk P=>(SR.jl _ _ _ k s hk<|SR.jl _ _ _ k s hk<|SR.jl _ _ _ k s hk<|SR.jl _ _ _ k s hk P),J,rfl,M,m,s3.jY λj hj=>?_⟩;(have:j=0\/j=1\/j=2\/j=3:=A);rcases this with rfl|rfl|rfl|rfl<;>rfl)<|.c (λf=>vq g d<|GY<|f 9 rfl)<|.n
 case hend=>intro a w g hS b;obtain⟨ac,R,q,i,-⟩:=b 10;let⟨aa,m,z⟩:=b 11;obtain rfl:=Ge q m;have F:=Ex hS<|.c 90 (b 0)<|.c 91 (b 1)<|.c 92 (b 2)<|.c 93 (b 3)<|.c 94 (b 4)<|.c 95 (b 5)<|.c 96 (b 6)<|.c 89 (b 7)<|.c 97 (b 8)<|.c 98 (b 9)<|.c 13 m<|.c 14 (b 12)<|.n;clear m q b hS;simp only[dK,cr,cN,cO,cT]at F;subst F;apply G _ _;clear G;have h2:=T.below g;have r2:=r1.below g;have b2:=aE b1<|aO g b1.size;have rA:=z;clear T r1 b1 t0 z g i;go_wp2_with fail;rename_i K2 C;refine CU (λwy=>ax w w wy) (SR s B x 1 w 67 4 p (tJ (jF p 0 c.D.nb) 4) [(sH c E p).1,(sH c E p).2.1,(sH c E p).2.2.1,(sH c E p).2.2.2]) ?hF ?hob ?hend;(case hF=>exact lD);(case hob=>intro a t g hS;have d:a.tmps.size=174:=hS.jB;have e1:a.eval (bj 1)=ar s:=hS.kD 1 qO;have e5:a.eval (bj 5)=ar B:=hS.kD 5 qO;have v:=h2.below g;have Q:=v.c1;have O:aq t (B 1 X)=u p:=(r2.below g).el 1;have o:w<=t.heap.size:=g.size;exact .c (λf=>vq g d<|xk e1)<|.c (λf=>vq g d<|Hb<|f 0 rfl)<|.c (λf=>vq g d<|Qc<|f 1 rfl)<|.c (λf=>vq g d<|NQ (f 2 rfl) Q)<|.c (λf=>vq g d<|Jb e5)<|.c (λf=>vq g d<|Ed (f 4 rfl) O)<|.c (λf=>by refine yP (Zt (f 3 rfl)<|f 5 rfl) (v.l2 t jQ p) ?_;rintro r S⟨rfl,K⟩;exact⟨_,rfl,aE g<|aO K o,λk s _ h=>SR.below K k s h,_,rfl,nu _<|by rw[d];decide⟩)<|.c (λf=>vq g d<|xk<|f 6 rfl)<|.c (λf=>vq g d<|Mh<|f 7 rfl)<|.c (λf=>vq g d<|Ky<|f 7 rfl)<|.c (λf=>by exact mZ (Wt) ⟨dD g o _,λk s _ h=>SR.below kI k s h,_,rfl,t,_,nu _<|by rw[d];decide,o,lZ t [aj ah 0,aj ah 0,aj ah 0,aj ah 0] 67⟩)<|.c (λf=>by have N:=f 8 rfl;let⟨M,R,m,i,l⟩:=f 10 rfl;refine DV (VJ m N (l.el _) (l.el _) (l.el _) (l.el _) l.kr) ?_;have s0:=l.jl 0 (sH c E p).1;have s1:=s0.jl 1 (sH c E p).2.1;have s2:=s1.jl 2 (sH c E p).2.2.1;have s3:=s2.jl 3 (sH c E p).2.2.2;refine⟨(az (az (az (az g i _) i _) i _) i _),λk s hk P=>(SR.jl _ _ _ k s hk<|SR.jl _ _ _ k s hk<|SR.jl _ _ _ k s hk<|SR.jl _ _ _ k s hk P),J,rfl,M,m,s3.jY λj hj=>?_⟩;(have:j=0\/j=1\/j=2\/j=3:=A);rcases this with rfl|rfl|rfl|rfl<;>rfl)<|.c (λf=>vq g d<|GY<|f 9 rfl)<|.n);case hend=>intro a wz g hS b;obtain⟨M,R,q,i,-⟩:=b 10;let⟨X',m,z⟩:=b 11;obtain rfl:=Ge q m;have F:=Ex hS<|.c 100 (b 0)<|.c 101 (b 1)<|.c 102 (b 2)<|.c 103 (b 3)<|.c 104 (b 4)<|.c 105 (b 5)<|.c 106 (b 6)<|.c 99 (b 7)<|.c 107 (b 8)<|.c 108 (b 9)<|.c 15 m<|.c 16 (b 12)<|.n;simp only[dK,cr,cN,cO,cT]at F;subst F;apply C _ _;clear C;have H:=rA.below g;have b3:=aE b2<|aO g b2.size;let⟨y0,y1,y2,y3⟩:=tO H;let⟨v0,v1,v2,v3⟩:=tO z;clear rA H z g h2 r2 b2 i;go_wp2_with fail;exact⟨rfl,rfl,b3⟩
end
def aiy(h:V->U)(base W g q:V)(f:V->y)(w1:ai)(ex:cf)(a:Act)(e:ai):U:=ex=cA/\a 6 J=ak/\∃b c d,Rec h e base W (g+4) (q+1) b c d/\yK W f b w1 e/\ax base w1 e/\b 0=f 0
def Iy(c:jH)(E:jL)(p:Y):V:=if jF p 0 c.D.nb then ku (E p.toNat).hs 100 else 0
def Ek(c:jH)(E:jL)(p:Y):L y:=if jF p 0 c.D.nb then vf (E p.toNat).hs (E p.toNat).vl 100 else[]
def abb(c:jH)(E:jL)(p:Y):Iy c E p<=100:=by
 unfold Iy;split;.exact wj _ _
 .omega
def S8(hs:V->I)(vl:V->Y):∀k,∀v,v∈vf hs vl k->∃x,v=aj ah x|0,v,h=>by simp[vf]at h|k+1,v,h=>by unfold vf at h;rw[dX]at h;rcases h with h|h;(.exact S8 hs vl k v h);grind
def afk(c:jH)(E:jL)(p:Y):∃F:V->Y,∀j,j<(Ek c E p).length->(Ek c E p)[j]?=u (aj ah<|F j):=by
 refine⟨λj=>aQ<|(Ek c E p).getD j J,λj b=>?_⟩;have f:∃x,(Ek c E p)[j]=aj ah x:=by have a:=List.getElem_mem b;unfold Ek at a⊢;by_cases e:jF p 0 c.D.nb=ak;(.simp only[e,DE]at a⊢;exact S8 _ _ _ _ a);grind
 let⟨x,d⟩:=f;rw[cd b,d];simp[gB,cd b,d,aQ]
def adt{w:ai}{base e a n:V}{v:y}(h:dZ w base e a v n o):lO w base e a v n λj=>o.getD j J:=by
 have b:o=(bI<|n*a).map (λj=>o.getD j J):=by apply fK;intro j;by_cases e:j<n*a;(.rw[dw,List.getElem?_range e];simp[gB,cd<|show j<o by rw[h.1];exact e]);.rw[dS<|by rw[h.1];omega,dS Fk]
 unfold lO;grind
section
variable(W s e x:V)(c:jH)(E:jL)(w:ai)
def acr(M:V->U)(hZ:∀b,w.heap.size<=b->M b)(base N q:V)(K G:V->y)(ms:V->Y)(p:Y)(hr:Rec M w base W N q K G ms)(T:N<=1000000)(hq:q<=1000000)(h:BU w s e x c E):aZ ao 57 #[ar W,ar s,p] w λr Q=>r=aX ak/\∃o z ad,Rec M Q base W (N+4) (q+1) o z ad/\yK W K o w Q/\ax base w Q/\o 0=K 0:=by
 have g0:=h.c0;have g1:=h.c1;have aw:=h.lt;go_enter Tryz.func57,Tryz.ntmps57;go_wp2_with fail;apply aF (h.t1 w jQ p);rintro r w1⟨v,rfl,f,t⟩;change w1.ownsRow w 81 2 v (Iy c E p) (Ek c E p)at f;have h1:=h.below t;have aB:=h1.c1;have av:=h1.lt;have hN:=abb c E p;let⟨F,hF⟩:=afk c E p;have hX:=f.1;have P:=Wf f A λj hj=>hF j A;have am:=adt f;generalize hn:Iy c E p=n at*;go_wp2_with fail;apply aF (h1.t2 w1 jQ p);rintro r w2⟨v2,rfl,l,g⟩;change w2.ownsRow w1 81 2 v2 (Iy c E p) (Ek c E p)at l;rw[hn]at l;have R:=Wf l A λj hj=>hF j A;have B:=P.below g;have C:=am.below g;have b2:=aE t<|aO g t.size;obtain⟨a1,p1,rfl,-,S⟩:=id B;obtain⟨a2,p2,rfl,-,O⟩:=id R;generalize tJ (jF p 0 c.D.nb) 4=er at*;go_wp2_with fail;go_loopw[11](λi wq=>∃k:V,k<=n/\i=k/\ax w2 w2 wq)(λi _=>n-(aQ i).toNat);exact⟨0,j9,rfl,jQ⟩;obtain⟨k,hk,rfl,m⟩:=hrel;by_cases aa:k<n;.obtain⟨d1,o1,rfl,l1,d⟩:=S A;obtain⟨d2,o2,rfl,l2,a⟩:=O A;(have y0:aq wr (d1 (o1+k*2) X)=u (aj ah<|F<|k*2):=by rw[bO m l1,d _ A]);(have y1:aq wr (d1 (o1+k*2+1) X)=u (aj ah<|F<|k*2+1):=by rw[bO m l1,cJ,d _ A]);(have z0:aq wr (d2 (o2+k*2) X)=u (aj ah<|F<|k*2):=by rw[bO m l2,a _ A]);(have z1:aq wr (d2 (o2+k*2+1) X)=u (aj ah<|F<|k*2+1):=by rw[bO m l2,cJ,a _ A]);generalize F (k*2)=f0 at*;generalize F (k*2+1)=f1 at*;go_wp2_with fail;go_quiet(fail);go_wp2_with fail;go_roundw;exact⟨k+1,A,pR,yV m _⟩;simp[aQ];omega
 . (have an:decide (k<n)=au:=by simpa using aa);have hO:=C.below m;have b3:=aE b2<|aO m b2.size;have al:=(hr.below b3).kp A;go_wp2_with fail;apply aF (J8 W wr al);rintro r w4⟨rfl,H⟩;have ac:=hO.below H;have b4:=aE b3<|aO H b3.size;go_wp2_with fail;apply aF (XS M w w4 base W N q n K G _ ms _ hZ hr b4 ac hN T hq);rintro r w5⟨rfl,fin⟩;go_wp2_with fail;go_ret;simp_all
end
section
variable(W s e x:V)(c:jH)(E:jL)(w1:ai)
def Yh(B:V)(f:V->U)(C:∀b,w1.heap.size<=b->f b)(base g q:V)(k d:V->y)(o:V->Y)(p n t:Y)(wh:I)(l:Rec f w1 base W g q k d o)(j:g<=1000000)(v:q<=1000000)(z:BU w1 s e x c E)(r1:je w1 B 105 5<|lc [aj ah 3,p,n,t,wh]):wi.wp ao (aiy f base W g q k w1) ⟨xo W s B 3 p n t wh,[]⟩ w1:=by have t0:=r1.el 0;have t1:=r1.el 1;simp only[wi,yZ,vX,dV,aA,ju,jm,kG,mR,xo,xF];go_wp2_with fail;apply aF (acr W s e x c E w1 f C base g q k d o p l j v z);rintro r F⟨rfl,i,a,m,h,D,b2,e0⟩;go_wp2_with fail;exact⟨rfl,rfl,i,a,m,h,D,b2,e0⟩
end
end
section
open Go.RowKit Go.Rel
structure Ch(S:V->U)(O O':V->V)(w w':ai):U where
 jB:w<=w'.heap.size
 oG:∀b,b<w.heap.size->¬S (O b)->w'.heap[b]?=w.heap[b]?
 o:∀b,b<w.heap.size->O' b=O b
def Ch.U5{z:V}{O c:V->V}{w:ai}(h:Ag z O w j)(e:∀b,b<w.heap.size->c b=O b):Ch (λa=>z<=a/\a<z+50) O c w j:=⟨h.jB,λb f d=>h.jg b d f,e⟩
def Ch.jP{S:V->U}{O a:V->V}{w:ai}(h:Ch S O a w j){b o:V}(d:b<w)(c:¬S (O b)):aq j (b o X)=aq w (b o X):=fN<|h.oG b d c
def Ch.uf{S:V->U}{O a:V->V}{w:ai}(h:Ch S O a w j)(c:¬S 0):jq (λb=>O b=0) w j:=⟨h.jB,λb d e=>h.oG b e<|by rw[d];exact c⟩
def lj.ch{S:V->U}{O a:V->V}{w:ai}{v:y}{k n:V}{f:V->Y}(h:lj (λb=>O b=0) w v k n f)(c:Ch S O a w j)(d:¬S 0):lj (λb=>a b=0) j v k n f:=(h.lt.jr<|(c.uf d).jh λ_ h=>h.1).jh λb h=>by rw[c.o b h.2];exact h.1
def oU.ch{S:V->U}{O a:V->V}{w:ai}{v:y}{n:V}{ts:V->jE}(h:oU (λb=>O b=0) w v n ts)(c:Ch S O a w j)(d:¬S 0):oU (λb=>a b=0) j v n ts:=(h.lt.jr<|(c.uf d).jh λ_ h=>h.1).jh λb h=>by rw[c.o b h.2];exact h.1
def wT.ch{z:V}{S:V->U}{O n:V->V}{w:ai}{e:V}{c:jH}{vB vL:y}{K R:V}{E:jL}(h:wT z O w e c vB vL K R E)(jX:c.D.nb<=3)(a:Ch S O n w j)(C:¬S 0)(l:∀g,z<=g->g<z+50->¬S g)(n0:¬S (O 0)):wT z n j e c vB vL K R E:=by let⟨f,d⟩:=h.is;have i:Af z O w j:=⟨a.jB,λb q t=>a.oG b t pC⟩;have oK:=d.oK;have oR:=d.oR;refine⟨⟨f,λm B=>d.k m<|i.mq B a.o,by rw[a.o K d.jT.lt];exact oK,by rw[a.o R d.kO.lt];exact oR,d.jT.jg<|a.oG K d.jT.lt<|l _ A A,λp s r hs=>(d.jo p s r hs).uP i a.o λb q F=>a.oG b q<|l _ A A,d.kO.jg<|a.oG R d.kO.lt<|l _ A A⟩,h.lr.uP i a.o,by have:=h.n0;unfold yS Own at*;rw[a.o 0 h.sf];exact this,λo v x=>h.rn o v<|by rw[<-a.jP h.sf n0];exact x,aN h.sf a.jB⟩
def lK.ch{n:V}{S:V->U}{O r:V->V}{w:ai}{x:V}{c:jH}{vB vL:y}{f:V->y}{E:jL}(h:lK w x c vB vL f E)(a:∀b,nV x f b->O b=n)(rb:lj (λb=>O b=0) w vB 1 c.D.nb c.D.fb)(rl:oU (λb=>O b=0) w vL c.D.nl c.D.ts)(e:n≠0)(d:Ch S O r w j)(s:¬S 0)(k:¬S n):lK j x c vB vL f E:=by have kp:=d.uf s;have g:=λb z t=>e<|(a b t).symm.trans z;refine{h with jT:=h.jT.jg<|d.oG x h.jT.lt<|by rw[a x<|aP rfl];exact k,b:=(rb.jr kp).jh g,l:=(rl.jr kp).jh g,m:=λp q B v=>?_};have o:=h.m p q B v;have:=h.nb;exact o.Uy λb i=>d.oG b (o.jV i).2 (by rw[a b<|aH ⟨p,q,A,A,i⟩];exact k)
structure wo where
 s:V
 e:V
 x:V
 K:V
 R:V
 vB:y
 vL:y
 mO:y
 nv:y
 c:jH
 s0:lH
structure One(z n:V)(O:V->V)(w:ai)(d:wo)(cX:V->y)(E F:jL):U where
 lt:d.s<w
 os:O d.s=0
 c0:aq w d.s=some (ar d.e)
 c1:aq w (d.s 1 none)=some (ar d.x)
 xO:wT z O w d.e d.c d.vB d.vL d.K d.R E
 B8:Inv d.c d.s0 E
 vz:lK w d.x d.c d.mO d.nv cX F
 inr:Inv d.c d.s0 F
 qL:∀b,nV d.x cX b->O b=n/\b<w.heap.size
 rb:lj (λb=>O b=0) w d.mO 1 d.c.D.nb d.c.D.fb
 rl:oU (λb=>O b=0) w d.nv d.c.D.nl d.c.D.ts
section
variable{z n:V}{O O':V->V}{w w':ai}{d:wo}{cX:V->y}{E F E' F':jL}{S:V->U}
def One.ch(h:One z n O w d cX E F)(a:Ch S O O' w w')(c:¬S 0)(i:¬S n)(f:n≠0)(g:∀j,z<=j->j<z+50->¬S j)(n0:¬S (O 0)):One z n O' w' d cX E F:=⟨aN h.lt a.jB,by rw[a.o _ h.lt];exact h.os,by rw[a.jP h.lt<|by rw[h.os];exact c];exact h.c0,by rw[a.jP h.lt<|by rw[h.os];exact c];exact h.c1,h.xO.ch h.B8.H.G.nb a c g n0,h.B8,h.vz.ch (λb e=>(h.qL b e).1) h.rb h.rl f a c i,h.inr,λb e=>⟨by rw[a.o b (h.qL b e).2];exact(h.qL b e).1,aN (h.qL b e).2 a.jB⟩,h.rb.ch a c,h.rl.ch a c⟩
def One.re(h:One z n O w d cX E F)(a:n≠0)(b:V->cF->V)(c:V):One z n O (w.re b c) d cX E F:=h.ch ⟨jK,λ_ _ _=>rfl,λ_ _=>rfl⟩ id id a (λ_ _ _=>id) id
def One.tq(h:One z n O w d cX E F)(r:1<=z)(q:n<z\/z+50<=n)(i:n≠0)(p:Inv d.c d.s0 E')(k:wT z O' w' d.e d.c d.vB d.vL d.K d.R E')(m:Ag z O w w')(l:∀b,b<w.heap.size->O' b=O b):One z n O' w' d cX E' F:=by
 have a:=Ch.U5 m l;have f:¬(z<=0/\0<z+50):=A
 have j:¬(z<=n/\n<z+50):=A
 exact⟨aN h.lt a.jB,by rw[a.o _ h.lt];exact h.os,by rw[a.jP h.lt<|by rw[h.os];exact f];exact h.c0,by rw[a.jP h.lt<|by rw[h.os];exact f];exact h.c1,k,p,h.vz.ch (λb g=>(h.qL b g).1) h.rb h.rl i a f j,h.inr,λb g=>⟨by rw[a.o b (h.qL b g).2];exact(h.qL b g).1,aN (h.qL b g).2 a.jB⟩,h.rb.ch a f,h.rl.ch a f⟩
noncomputable def Kw(O:V->V)(H n x:V)(cX:V->y)(b:V):V:=if b<H then O b else@ite _ (nV x cX b) (Classical.propDecidable _) n 0
def abI{H x b:V}(a:b<H):Kw O H n x cX b=O b:=rW a
def WE{x:V}{c:V->y}(a:∀b,nV x cX b->O b=n)(g:qv x cX c w w'):Ch (λj=>j=n) O (Kw O w n x c) w w':=⟨g.jB,λb e h=>g.oG b e λf=>h (a b f),λb e=>abI e⟩
def One.sd(h:One z n O w d cX E F)(q:1<=z)(r:n<z\/z+50<=n)(l:n≠0)(n0:O 0=0)(p:Inv d.c d.s0 F'){a:V->y}(m:lK w' d.x d.c d.mO d.nv a F')(g:qv d.x cX a w w'):One z n (Kw O w n d.x a) w' d a E F':=by
 have e:=WE (λb i=>(h.qL b i).1) g;have f:=Ne.symm l;refine⟨aN h.lt e.jB,by rw[e.o _ h.lt];exact h.os,by rw[e.jP h.lt<|by rw[h.os];exact f];exact h.c0,by rw[e.jP h.lt<|by rw[h.os];exact f];exact h.c1,h.xO.ch h.B8.H.G.nb e f (λj _ _=>A)<|by rw[n0];exact f,h.B8,m,p,λb i=>?_,h.rb.ch e f,h.rl.ch e f⟩;rcases g.qL b i with k|k;.exact⟨by rw[e.o b (h.qL b k).2];exact(h.qL b k).1,aN (h.qL b k).2 e.jB⟩
 .exact⟨by unfold Kw;grind,k.2⟩
def aiz{e:V}{c:jH}{vB vL:y}{K R:V}{f:V->y}{s0:lH}(g:Inv c s0 E)(p:Y)(h:j6 z O w e c vB vL K R f E):aZ ao 23 #[ar e,p] w<|Kx c E p w:=by cases q:jF p 0 c.D.nb with|false=>apply aF (abY p h q);rintro r w'⟨rfl,rfl⟩;refine⟨_,by rw[q];rfl,?_,jQ⟩;simp only[q];exact gA _ _ _ _|true=>let⟨a,b⟩:=Ak.1 q;obtain⟨i,rfl⟩:=Int.eq_ofNat_of_zero_le a;(have j:i<=c.D.nb:=A);apply aF (amt _ _ _ _ _ _ _ _ _ _ _ h g.H.G.nb i j<|by have:=(g.e.jo i j).xi;have:=(g.e.jo i j).oN;have:=g.H.G.nl;omega);rintro r w'⟨a,cap,rfl,k,l⟩;refine⟨_,by rw[q];rfl,?_,l⟩;rw[<-Np,Kv]at k;rw[Kv];grind
def acW{x:V}{c:jH}{vB vL:y}(p:Y)(h:lK w x c vB vL cX E):aZ ao 94 #[ar x,p] w<|Kx c E p w:=by cases q:jF p 0 c.D.nb with|false=>apply aF (Yb p h q);rintro r w'⟨rfl,rfl⟩;refine⟨_,by rw[q];rfl,?_,jQ⟩;simp only[q];exact gA _ _ _ _|true=>let⟨a,b⟩:=Ak.1 q;obtain⟨f,rfl⟩:=Int.eq_ofNat_of_zero_le a;apply aF (XN f A h);rintro r w'⟨v,rfl,g,e⟩;refine⟨v,by rw[q];rfl,?_,e⟩;grind
def One.E6(h:One z n O w d cX E E):BU w d.s d.e d.x d.c E:=by let⟨f,g⟩:=h.xO.is;have a:=h.B8;have jX:=a.H.G.nb;have nt:=a.H.G.nl;exact⟨h.lt,h.c0,h.c1,λw1 b p q=>aag jX p q<|g.below b,λw1 b p q=>YT p q<|h.vz.below b,λw1 b i=>afs a jX nt i<|g.below b,λw1 b i=>afz a i<|h.vz.below b,λw1 b p=>adN a jX p<|g.below b,λw1 b p=>abS a p<|h.vz.below b,λw1 b p=>aiz a p<|g.below b,λw1 b p=>acW p<|h.vz.below b⟩
end
section
variable{Z Z' S:V->U}{O O':V->V}{w w':ai}{base W np q:V}{cW vsP:V->y}{ms:V->Y}
def Rec.jh(h:Rec Z w base W np q cW vsP ms)(d:∀b,b<w.heap.size->Out W cW b->Z b->Z' b):Rec Z' w base W np q cW vsP ms:=have m:=λb a=>⟨a.1.1,d b a.2 a.1.1 a.1.2⟩;⟨h.x,h.lt,h.p,h.m,λi hi=>(h.rp i hi).imp λ_ r=>r.lt.jh m,h.i.lt.jh m,h.r.lt.jh m,h.c.lt.jh m,h.l.lt.jh m,h.s.lt.jh m,h.Av⟩
def Rec.Ec(h:Rec Z w base W np q cW vsP ms){b:V}(a:¬Out W cW b):b<w/\base<=b:=by
 by_cases e:b=W;.rw[e];exact⟨h.x.lt,h.lt⟩
 by_cases e1:(cW 1).ownBlock=u b;.exact⟨(h.p.lt b e1).2,(h.p.lt b e1).1⟩
 by_cases e2:(cW 2).ownBlock=u b;.exact⟨(h.m.lt b e2).2,(h.m.lt b e2).1⟩
 exact zW ⟨e,e1,e2⟩ a
def Rec.ch(h:Rec (λb=>O b=0) w base W np q cW vsP ms)(z:∀b,¬Out W cW b->O b=999)(d:Ch S O O' w w')(n:¬S 0)(v:¬S 999):Rec (λb=>O' b=0) w' base W np q cW vsP ms:=by have m:∀b,vJ (λb=>O b=0) W cW b/\b<w.heap.size->vJ (λb=>O' b=0) W cW b:=λb a=>⟨a.1.1,aT (d.o b a.2) a.1.2⟩;have k:jq (λb=>vJ (λb=>O b=0) W cW b/\b<w) w w':=⟨d.jB,λb a t=>d.oG b t<|by rw[a.1.2];exact n⟩;have f:=λb a=>d.oG b (h.Ec a).1 pC;exact⟨h.x.jg<|f W λe=>e.1 rfl,h.lt,h.p.jr λg j=>f g λe=>e.2.1 j,h.m.jr λg j=>f g λe=>e.2.2 j,λi hi=>(h.rp i hi).imp λ_ r=>(r.lt.jr k).jh m,(h.i.lt.jr k).jh m,(h.r.lt.jr k).jh m,(h.c.lt.jr k).jh m,(h.l.lt.jr k).jh m,(h.s.lt.jr k).jh m,h.Av⟩
end
def Md(n:V)(O:V->V)(w:ai)(b:y)(d:V->wo):U:=∃a cap,b=ae a n cap/\(0<n->∃S,a=u ⟨S,0,X⟩/\O S=0/\S<w.heap.size/\∀j,j<n->aq w ⟨S,j,X⟩=u (ar (d j).s))
structure Pl(n:V)(O:V->V)(w0 w:ai)(base W np q:V)(v0:y)(cW vsP:V->y)(ms:V->Y)(d:V->wo)(cX:V->V->y)(E F:V->jL):U where
 r:Rec (λb=>O b=0) w base W np q cW vsP ms
 kD:∀b,¬Out W cW b->O b=999
 kZ:∀b,b<base->O b=0
 lS:jq (λb=>b<base) w0 w
 sf:0<base
 rz:∀j,j<n->One (1+50*j) (1000+j) O w (d j) (cX j) (E j) (F j)
 n2:n<=2
 v:cW 0=v0
 sl:Md n O w v0 d
section
variable{S:V->U}{n:V}{O O':V->V}{w0 w w':ai}{base W np q:V}{v0:y}{cW vsP:V->y}{ms:V->Y}{d:V->wo}{cX cX':V->V->y}{E F E' F':V->jL}
def Md.ch(h:Md n O w v0 d)(b:Ch S O O' w w')(k:¬S 0):Md n O' w' v0 d:=by obtain⟨a,cap,rfl,p⟩:=h;refine⟨a,cap,rfl,λg=>?_⟩;let⟨m,i,e,c,l⟩:=p g;exact⟨m,i,by rw[b.o _ c];exact e,aN c b.jB,λj f=>by rw[b.jP c<|by rw[e];exact k];exact l j f⟩
def Pl.MG(h:Pl n O w0 w base W np q v0 cW vsP ms d cX E F)(c:Ch S O O' w w')(f:¬S 0)(g:¬S 999)(e:∀j,j<n->One (1+50*j) (1000+j) O' w' (d j) (cX' j) (E' j) (F' j)):Pl n O' w0 w' base W np q v0 cW vsP ms d cX' E' F':=by
 have a:base<=w:=by have:=h.r.lt;have:=h.r.x.lt;omega
 exact⟨h.r.ch h.kD c f g,λb a=>by rw[c.o b (h.r.Ec a).1];exact h.kD b a,λb a=>by rw[c.o b A];exact h.kZ b a,h.lS.jA ⟨c.jB,λb a i=>c.oG b i<|by rw[h.kZ b a];exact f⟩,h.sf,e,h.n2,h.v,h.sl.ch c f⟩
def Pl.uf(h:Pl n O w0 w base W np q v0 cW vsP ms d cX E F)(hk:jq (λ_=>True) w w')(e:∀b,b<w.heap.size->O' b=O b):Pl n O' w0 w' base W np q v0 cW vsP ms d cX E F:=have a:=⟨hk.jB,λb c _=>hk.jg b n7 c,e⟩;h.MG a id id λj f=>(h.rz j f).ch a id id A (λ_ _ _=>id) id
def Pl.below(h:Pl n O w0 w base W np q v0 cW vsP ms d cX E F)(a:ax w w w'):Pl n O w0 w' base W np q v0 cW vsP ms d cX E F:=h.uf (jq.km a) λ_ _=>rfl
def Pl.re(h:Pl n O w0 w base W np q v0 cW vsP ms d cX E F)(b:V->cF->V)(a:V):Pl n O w0 (w.re b a) base W np q v0 cW vsP ms d cX E F:=h.MG (S:=λ_=>False) ⟨jK,λ_ _ _=>rfl,λ_ _=>rfl⟩ id id λj c=>(h.rz j c).re A b a
def Pl.o0(h:Pl n O w0 w base W np q v0 cW vsP ms d cX E F):O 0=0:=h.kZ 0 h.sf
def Pl.By(h:Pl n O w0 w base W np q v0 cW vsP ms d cX E F){j:V}(m:j<n)(f:Ch S O O' w w')(hS:∀k,S k->(1+50*j<=k/\k<51+50*j)\/k=1000+j){cX':V->y}{E' F':jL}(g:One (1+50*j) (1000+j) O' w' (d j) cX' E' F'):Pl n O' w0 w' base W np q v0 cW vsP ms d (jd cX j cX') (jd E j E')<|jd F j F':=by
 have l:=h.n2;have ns:∀k,k<1+50*j\/51+50*j<=k->k≠1000+j->¬S k:=λk a b c=>pC
 refine h.MG f (ns 0 A A) (ns 999 A A) λi hi=>?_;by_cases e:i=j;.subst e;rw[ki,ki,ki];exact g
 .rw[j8 _ _ e,j8 _ _ e,j8 _ _ e];exact(h.rz i hi).ch f (ns 0 A A) (ns _ A A) A (λk a b=>ns k A A)<|by rw[h.o0];grind
noncomputable def Hn(O:V->V)(H W:V)(cW:V->y)(b:V):V:=if b<H then O b else@ite _ (Out W cW b) (Classical.propDecidable _) 0 999
def Pl.jR(h:Pl n O w0 w base W np q v0 cW vsP ms d cX E F){l p:V}{c i:V->y}{m:V->Y}(C:Rec (λb=>b<w->O b=0) w' base W l p c i m)(g:yK W cW c w w')(f:ax base w w')(e0:c 0=cW 0):Pl n (Hn O w W c) w0 w' base W l p v0 c i m d cX E F:=by
 have D:=h.n2;have s:base<=w:=by have:=h.r.lt;have:=h.r.x.lt;omega
 have lo:∀b,b<w.heap.size->Hn O w W c b=O b:=λb f=>rW f;have o:Ch (λk=>k=999) O (Hn O w W c) w w':=⟨g.k.jB,λb f z=>g.k.jg b (Classical.byContradiction λe=>z (h.kD b e)) f,lo⟩;refine⟨C.jh λb b1 b2 b3=>?_,λb f=>?_,λb f=>by rw[lo b A];exact h.kZ b f,h.lS.jA ⟨f.size,λb B _=>f.block b B⟩,h.sf,λj t=>(h.rz j t).ch o A A A (λk a b=>A)<|by rw[h.o0];omega,D,aT e0 h.v,h.sl.ch o A⟩;.by_cases e:b<w;(.grind);.unfold Hn;grind
 .by_cases e:b<w;(.rw[lo b e];exact h.kD b λk=>f (g.g b e k));.unfold Hn;grind
end
def sA(n:V)(w0:ai)(base W np q:V)(v0:y)(d:V->wo)(E F:V->jL)(w:ai):U:=∃O cW vsP ms cX,Pl n O w0 w base W np q v0 cW vsP ms d cX E F
section
variable{n:V}{w0 w w':ai}{base W np q:V}{v0:y}{d:V->wo}{E F:V->jL}
def sA.below(h:sA n w0 base W np q v0 d E F w)(a:ax w w w'):sA n w0 base W np q v0 d E F w':=by let⟨O,cW,vsP,ms,cX,h⟩:=h;exact⟨O,cW,vsP,ms,cX,h.below a⟩
def sA.re(h:sA n w0 base W np q v0 d E F w)(a:V->cF->V)(b:V):sA n w0 base W np q v0 d E F<|w.re a b:=by let⟨O,cW,vsP,ms,cX,h⟩:=h;exact⟨O,cW,vsP,ms,cX,h.re a b⟩
def sA.kp(h:sA n w0 base W np q v0 d E F w)(a:np<=1048577):Kp w W:=by let⟨O,cW,vsP,ms,cX,h⟩:=h;exact h.r.kp a
def sA.E6(h:sA n w0 base W np q v0 d E E w){j:V}(a:j<n):BU w (d j).s (d j).e (d j).x (d j).c<|E j:=by let⟨O,cW,vsP,ms,cX,h⟩:=h;exact(h.rz j a).E6
def sA.x4(h:sA n w0 base W np q v0 d E F w){j:V}(a:j<n):aq w ((d j).x 4 X)=u (aj ah<|((d j).c.D.nb:Y)+1):=by let⟨O,cW,vsP,ms,cX,h⟩:=h;exact(h.rz j a).vz.jP (h.rz j a).vz.c4
def sA.x5(h:sA n w0 base W np q v0 d E F w){j:V}(a:j<n):aq w ((d j).x 5 X)=u (d j).nv:=by let⟨O,cW,vsP,ms,cX,h⟩:=h;exact(h.rz j a).vz.jP (h.rz j a).vz.c5
def sA.asks(h:sA n w0 base W np q v0 d E E w){x:aK}{a:Act}(c:x.wp ao (Jd w) a w):x.wp ao (λex a w'=>ex=cA/\a 6 J=ak/\sA n w0 base W np q v0 d E E w') a w:=pT c λex a w' b=>⟨b.1,b.2.1,h.below b.2.2⟩
def sA.pQ(h:sA n w0 base W np q v0 d E E w){j:V}(x:j<n)(B:V)(p k f:Y)(wh:I)(i:np<=1000000)(t:q<=1000000)(r1:je w B 105 5<|lc [aj ah 3,p,k,f,wh]):wi.wp ao (λex a w'=>ex=cA/\a 6 J=ak/\sA n w0 base W (np+4) (q+1) v0 d E E w') ⟨xo W (d j).s B 3 p k f wh,[]⟩ w:=by let⟨O,cW,vsP,ms,cX,h⟩:=h;apply pT (Yh W _ _ _ _ _ w B (λb=>b<w->O b=0) (λb o z=>A) base np q cW vsP ms p k f wh (h.r.jh λb _ _ e _=>e) i t (h.rz j x).E6 r1);rintro ex a w'⟨e1,e2,l,c,m,v,g,o,e0⟩;exact⟨e1,e2,_,l,c,m,cX,h.jR v g o e0⟩
end
def od(n:V)(w0:ai)(base W:V)(v0:y)(d:V->wo)(N:V)(w:ai):U:=∃np q E,np<=4*N/\q<=N/\sA n w0 base W np q v0 d E E w
def od.re{n:V}{w0 w:ai}{base W:V}{v0:y}{d:V->wo}{N:V}(h:od n w0 base W v0 d N w)(b:V->cF->V)(a:V):od n w0 base W v0 d N<|w.re b a:=by let⟨np,q,E,c,f,e⟩:=h;exact⟨np,q,E,c,f,e.re b a⟩
def od.jh{n:V}{w0 w:ai}{base W:V}{v0:y}{d:V->wo}{N M:V}(h:od n w0 base W v0 d N w)(b:N<=M):od n w0 base W v0 d M w:=by let⟨np,q,E,e,c,a⟩:=h;exact⟨np,q,E,A,A,a⟩
def od.below{n:V}{w0 w w':ai}{base W:V}{v0:y}{d:V->wo}{N:V}(h:od n w0 base W v0 d N w)(a:ax w w w'):od n w0 base W v0 d N w':=by let⟨np,q,E,e,c,b⟩:=h;exact⟨np,q,E,e,c,b.below a⟩
end
end Go.Proofs.YtldeiiffabfmeaaGreatDoor
namespace Go.Proofs.YtldeiiffabfmeaaGreatDoor.Kp
section
open Go.RowKit Go.Rel Go.Proofs.YtldeiiffabfmeaaGreatDoor
section
variable{H:Type}
def Qu(d:bJ H):1<=bn d:=by cases d with|lit l=>cases l<;>simp[bn]|_=>simp[bn]
def Fy{k:V}:∀{l:L<|bJ H},(∀d,d∈l->k<=bn d)->l*k<=dA l|[],_=>by simp|d::l,h=>by have a:=h d F0;have b:=Fy (l:=l) λd hd=>h d (by simp[hd]);simp only[dA,List.length_cons,Nat.succ_mul];omega
def Gb{d:bJ H}:∀{l:L<|bJ H},d∈l->bn d<=dA l|[],h=>by simp at h|x::l,h=>by simp only[dA];rcases ft.1 h with rfl|h;(.omega);.have:=Gb h;omega
def PW(l s:L<|bJ H):dA l+1<=bn (fw l s):=by simp only[bn];omega
def Mq(l:L<|bJ H):dA l+1=bn (.agg l):=by simp only[bn]
end
section
variable{H:Type}{enc:aY×y->H}{w:ai}{base:V}{held:I}
def IN(t:jE):U:=(∀j,j<t.nc*4->(cD ah<|t.c j).wf=ak)/\t.nr<=1048576/\t.nw<=1048576/\t.ng<=1048576/\t.nc<=1048576
def Fq(enc:aY×y->H)(w:ai)(base:V)(held:I)(e k:V):U:=∀(n:V)(a:L y)(x:bJ H×L bZ),bC enc ao w base (λ_=>ak) held n e a=u x->a=k/\∀j,j<k->∃z,a[j]?=u (aj ah z)/\(cD ah z).wf=ak
def Lp:Tryz.prog.cellsOf 3=1:=vI
def RX:Tryz.prog.cellsOf 159=2:=vI
def U0:Tryz.prog.cellsOf 161=4:=vI
def WO:Tryz.prog.cellsOf 81=2:=vI
def Tq:Tryz.prog.cellsOf 91=4:=vI
def WZ:Tryz.prog.cellsOf 22=1:=vI
def abN:Tryz.prog.cellsOf 86=1:=vI
def acO:Tryz.prog.cellsOf 87=1:=vI
def acG:Tryz.prog.cellsOf 24=4:=vI
def aio:Tryz.prog.cellsOf 25=1:=vI
def ajw:Tryz.prog.cellsOf 26=1:=vI
def Ow:Fq enc w base held 3 1:=by intro n a x h;obtain⟨z,rfl,_,b⟩:=fx ek h;grind
def yD{n:V}{o:V}{x:n6<|bJ H×L bZ}{a:bJ H×L bZ}(h:bC enc ao w base (λ_=>ak) held n 3 ((t.drop o).take<|Tryz.prog.cellsOf 3)=x)(c:x=u a):∃z,t[o]?=u (aj ah z)/\(cD ah z).wf=ak:=by
 rw[c,Lp]at h;let⟨z,d,_,b⟩:=fx ek h;refine⟨z,?_,b⟩;have e:((t.drop o).take 1)[0]?=u (aj ah z):=by rw[d];rfl
 grind
def Wn{t:V}{a b:Field}(m:cZ ao t=u (.struct #[a,b]))(p:Tryz.prog.cellsOf t=2)(e0:a.type=3/\a.offset=0)(e1:b.type=3/\b.offset=1):Fq enc w base held t 2:=by
 intro n r x h;let⟨l,k,_,_,o,e,f⟩:=dH m h;refine⟨aT o p,λj q=>?_⟩;have g:∀i,i<2->∃d,l[i]?=u d:=λi hi=>⟨_,cd pC⟩;have:j=0\/j=1:=A
 rcases this with rfl|rfl;.let⟨d,c⟩:=g 0 A;have:=f 0 a rfl;rw[e0.1,e0.2]at this;exact yD this c
 .let⟨d,c⟩:=g 1 A;have:=f 1 b rfl;rw[e1.1,e1.2]at this;exact yD this c
def acC:Fq enc w base held 159 2:=Wn Tryz.underlying159 RX ⟨rfl,rfl⟩ ⟨rfl,rfl⟩
def akX:Fq enc w base held 81 2:=Wn Tryz.underlying81 WO ⟨rfl,rfl⟩ ⟨rfl,rfl⟩
def XV:Fq enc w base held 161 4:=by
 intro n m x h;let⟨g,k,_,_,f,e,c⟩:=dH Tryz.underlying161 h;refine⟨aT f U0,λj l=>?_⟩;have d:∀i,i<4->∃b,g[i]?=u b:=λi hi=>⟨_,cd pC⟩;have:j=0\/j=1\/j=2\/j=3:=A
 rcases this with rfl|rfl|rfl|rfl;.let⟨b,a⟩:=d 0 A;exact yD (c 0 _ rfl) a
 .let⟨b,a⟩:=d 1 A;exact yD (c 1 _ rfl) a
 .let⟨b,a⟩:=d 2 A;exact yD (c 2 _ rfl) a
 .let⟨b,a⟩:=d 3 A;exact yD (c 3 _ rfl) a
def PT(w:ai)(v:y):U:=∀a n c,v=ae (u a) n c->yE w a.block=ak\/(n=0/\c=0)
def ZC{w:ai}{a:bG}{v:y}(h:aq w a=u v):yE w a.block=ak:=by unfold aq at h;unfold yE;grind
def OV{t e d:V}{v:y}{x:bJ H×L bZ}(r:cZ ao t=u (.slice e))(i:0<Tryz.prog.cellsOf e)(h:bC enc ao w base (λ_=>ak) held d t [v]=u x):PT w v:=by
 intro f n c s;rcases eu r h with⟨b,_⟩|⟨a,len,cap,m,F,D,Pl,b,_,E,_,l,_,z⟩;.grind
 .simp at b;rw[s]at b;injection b with b j C;injection b with b;subst b j C;simp only[DE]at l;subst l;rcases ey m with o|o;(.omega);.let⟨g,j,_⟩:=z 0 o;let⟨_,k,q⟩:=ez j;obtain⟨p,B⟩:∃p,g[0]?=u p:=⟨_,cd A⟩;have:=aT (q 0 i) B;have G:=ZC this;left;(have e:∀f:bG,((f.add<|0*Tryz.prog.cellsOf e).add 0).block=f.block:=λf=>by simp[Addr.add]);grind
def Zf{v:y}{k n:V}{f:V->Y}(h:kY w v k n f)(q:PT w v):kY (nA w) (kW w v) k n f:=by obtain⟨a,cap,rfl,l,p⟩:=h;cases a with|none=>exact⟨X,cap,by rw[kW],l,λm=>pC⟩|some g=>by_cases c:yE w g.block=ak;(.refine⟨u g,cap,by rw[kW,rW c],l,λm=>?_⟩;let⟨b,off,e,i,d⟩:=p m;exact⟨b,off,e,by rw[Hg];exact i,λj o=>by rw[Lq,d j o];simp only[ej];rw[kW]⟩);.obtain⟨rfl,rfl⟩:=(q g n cap rfl).resolve_left c;exact⟨u Ai,0,by rw[kW,BW c,rW ⟨rfl,rfl⟩],A,λh=>A⟩
def Vg(w:ai)(v:y)(n:V)(ts:V->jE):U:=∃a cap,v=ae a n cap/\n<=1048577/\(0<n->∃b off,a=u ⟨b,off,X⟩/\b<w.heap.size/\∃vs:V->y,(∀j,j<n*4->aq w ⟨b,off+j,X⟩=u (vs j))/\∀i,i<n->oL (nA w) (kW w<|vs<|i*4) (kW w<|vs<|i*4+1) (kW w<|vs<|i*4+2) (kW w<|vs<|i*4+3) (ts i))
def XH{v:y}{n:V}{ts:V->jE}(h:Vg w v n ts)(p:PT w v):sV (nA w) (kW w v) n ts:=by obtain⟨a,cap,rfl,i,o⟩:=h;cases a with|none=>exact⟨X,cap,by rw[kW],i,λk=>pC⟩|some f=>by_cases c:yE w f.block=ak;(.refine⟨u f,cap,by rw[kW,rW c],i,λk=>?_⟩;let⟨b,off,e,g,vs,d,m⟩:=o k;exact⟨b,off,e,by rw[Hg];exact g,λj=>kW w<|vs j,λj l=>by rw[Lq,d j l];rfl,m⟩);.obtain⟨rfl,rfl⟩:=(p f n cap rfl).resolve_left c;exact⟨u Ai,0,by rw[kW,BW c,rW ⟨rfl,rfl⟩],A,λh=>A⟩
def agB{t e k E:V}{x:bJ H×L bZ}(T:cZ ao t=u (.slice e))(hk:Tryz.prog.cellsOf e=k)(s:0<k)(hi:Fq enc w base held e k)(h:bC enc ao w base (λ_=>ak) held E t o=u x)(hB:bn x.1<=1048576):∃v n f,o=[v]/\kY w v k n f/\n<=1048576/\∀j,j<n*k->(cD ah<|f j).wf=ak:=by
 rcases eu T h with⟨rfl,rfl⟩|⟨a,len,cap,m,n,D,Pl,rfl,_,hl,_,hm,rfl,O⟩;.exact⟨_,0,λ_=>0,rfl,⟨_,_,rfl,A,λh=>A⟩,A,λj B=>A⟩
 . (have R:len<=m:=pC);(have G:len<=1048576:=by have r:=PW ((bI len).map D)<|(bI<|m-len).map λj=>D (len+j);have N:=Fy (l:=(bI len).map D) λd _=>Qu d;grind);rw[hk]at O;rcases ey len with K|K;(.subst K;exact⟨_,0,λ_=>0,rfl,⟨_,_,rfl,A,λh=>A⟩,A,λj B=>A⟩);. (have p:∀i,i<len->∀q,q<k->∃z,aq w ((a.add<|i*k).add q)=u (aj ah z)/\(cD ah z).wf=ak:=λi aa q hq=>by let⟨W,r,N⟩:=O i A;let⟨_,S,Q⟩:=ez r;let⟨_,g⟩:=hi _ _ _ N;grind);let⟨b,off,F⟩:=a;(have M:F=X:=by let⟨z,g,_⟩:=p 0 K 0 s;have r:=fy g;rw[fA]at r;unfold Addr.add at r;grind);subst M;(have c:∀j,j<len*k->∃z,aq w (b (off+j) X)=u (aj ah z)/\(cD ah z).wf=ak:=λj B=>by have C:=Nat.div_lt_of_lt_mul (by rw[fB];exact B);let⟨z,r,N⟩:=p (j/k) C (j%k)<|dW _ s;rw[dP,dP,cJ,show j/k*k+j%k=j from by rw[fB];exact Nat.div_add_mod j k]at r;grind);refine⟨_,len,λj=>aQ<|(aq w<|b (off+j) X).getD J,rfl,⟨_,_,rfl,A,λ_=>⟨b,off,rfl,?_,λj B=>?_⟩⟩,G,λj B=>?_⟩;(.let⟨z,g,_⟩:=c 0<|Nat.mul_pos K s;exact dM w _ g);(.let⟨z,g,_⟩:=c j B;simp only[g,aA,aQ]);.let⟨z,g,P⟩:=c j B;simp only[g,aA,aQ];exact P
def FJ{t e k a:V}{x:bJ H×L bZ}(d:cZ ao t=u (.slice e))(hk:Tryz.prog.cellsOf e=k)(b:0<k)(hi:Fq enc w base held e k)(h:bC enc ao w base (λ_=>ak) held a t o=u x)(hB:bn x.1<=1048576):∃v n f,o=[v]/\kY (nA w) (kW w v) k n f/\n<=1048576/\∀j,j<n*k->(cD ah<|f j).wf=ak:=by let⟨v,n,f,c,l,i,g⟩:=agB d hk b hi h hB;exact⟨v,n,f,c,Zf l<|OV d A<|c▸h,i,g⟩
end
section
variable{H:Type}{enc:aY×y->H}{w:ai}{base:V}{held:I}
def TF{e:Type}{l:L e}(h:l.length=4):∃a b c d,l=[a,b,c,d]:=by match l,h with|[a,b,c,d],_=>simp
def aff{d:Type}{l:L d}(h:l.length=3):∃a b c,l=[a,b,c]:=by match l,h with|[a,b,c],_=>simp
def Zq{g:Type}{l:L g}(h:l.length=6):∃a b c d e f,l=[a,b,c,d,e,f]:=by match l,h with|[a,b,c,d,e,f],_=>simp
def Jo{q:V}{v:y}(h:(o.drop q).take 1=[v]):o[q]?=u v:=by
 have a:((o.drop q).take 1)[0]?=u v:=by rw[h];rfl
 grind
def acT{n:V}{d:bJ H}{p:L bZ}(h:bC enc ao w base (λ_=>ak) held n 91 o=u (d,p))(hB:bn d<=1048576):5<=bn d/\∃f j g c t,o[0]?=u f/\o[1]?=u j/\o[2]?=u g/\o[3]?=u c/\oL (nA w) (kW w f) (kW w j) (kW w g) (kW w c) t/\IN t:=by
 let⟨v,k,_,hd,Q,b,m⟩:=dH Tryz.underlying91 h;simp only[Prod.mk.injEq]at hd;have a:=b;have P:=Mq (v.map (·.1));have D:5<=bn d:=by have:=Fy (l:=v.map (·.1)) λd _=>Qu d;grind
 refine⟨D,?_⟩;obtain⟨r,s,e,q,rfl⟩:=TF a;have part:∀i,i∈[r,s,e,q]->bn i.1<=1048576:=λi K=>by have O:=Gb (l:=[r,s,e,q].map (·.1))<|dy.2 ⟨i,K,rfl⟩;grind
 have g0:bC enc ao w base (λ_=>ak) held k 22 ((o.drop 0).take<|Tryz.prog.cellsOf 22)=u r:=m 0 _ rfl;have B:bC enc ao w base (λ_=>ak) held k 22 ((o.drop 1).take<|Tryz.prog.cellsOf 22)=u s:=m 1 _ rfl;have x:bC enc ao w base (λ_=>ak) held k 86 ((o.drop 2).take<|Tryz.prog.cellsOf 86)=u e:=m 2 _ rfl;have z:bC enc ao w base (λ_=>ak) held k 87 ((o.drop 3).take<|Tryz.prog.cellsOf 87)=u q:=m 3 _ rfl;rw[WZ]at g0 B;rw[abN]at x;rw[acO]at z;let⟨f,n0,M,c0,r0,s0,_⟩:=FJ dI Lp A Ow g0<|part r F0;let⟨j,n1,G,c1,r1,s1,_⟩:=FJ dI Lp A Ow B<|part s F0;let⟨g,n2,N,c2,r2,s2,_⟩:=FJ fE RX A acC x<|part e F0;let⟨c,E,C,c3,r3,s3,F⟩:=FJ fF U0 A XV z<|part q F0;exact⟨f,j,g,c,⟨n0,M,n1,G,n2,N,E,C⟩,Jo c0,Jo c1,Jo c2,Jo c3,⟨r0,r1,r2,r3⟩,F,s0,s1,s2,s3⟩
def afo{p:V}{x:bJ H×L bZ}(h:bC enc ao w base (λ_=>ak) held p 25 o=u x)(hB:bn x.1<=1048576):∃v n ts,o=[v]/\Vg w v n ts/\(n<=250000/\n*5<=bn x.1)/\∀i,i<n->IN (ts i):=by
 rcases eu dQ h with⟨rfl,rfl⟩|⟨a,len,cap,m,n,D,Pl,rfl,_,W,_,hm,rfl,F⟩;.exact⟨_,0,λ_=>⟨0,λ_=>0,0,λ_=>0,0,λ_=>0,0,λ_=>0⟩,rfl,⟨_,_,rfl,A,λh=>A⟩,A,λi hi=>A⟩
 . (have Q:len<=m:=pC);have S:=PW ((bI len).map D)<|(bI<|m-len).map λj=>D (len+j);(have O:∀i,i<len->bn (D i)<=1048576:=λi hi=>by have:=Gb (d:=D i)<|dy.2 ⟨i,eF.2 hi,rfl⟩;grind);rw[Tq]at F;(have c:∀i,i<len->5<=bn (D i)/\∃e g f k t,aq w ((a.add<|i*4).add 0)=u e/\aq w ((a.add<|i*4).add 1)=u g/\aq w ((a.add<|i*4).add 2)=u f/\aq w ((a.add<|i*4).add 3)=u k/\oL (nA w) (kW w e) (kW w g) (kW w f) (kW w k) t/\IN t:=λi hi=>by let⟨M,B,G⟩:=F i A;let⟨_,R,N⟩:=ez B;let⟨h5,e,g,f,k,t,c0,c1,c2,c3,K,hs⟩:=acT G<|O i hi;grind);(have l:len<=250000/\len*5<=bn (fw ((bI len).map D)<|(bI<|m-len).map λj=>D (len+j)):=by(have G:=Fy λd hd=>by obtain⟨i,hi,rfl⟩:=dy.1 hd;exact(c i<|eF.1 hi).1);grind);rcases ey len with z|z;(.subst z;exact⟨_,0,λ_=>⟨0,λ_=>0,0,λ_=>0,0,λ_=>0,0,λ_=>0⟩,rfl,⟨_,_,rfl,A,λh=>A⟩,A,λi hi=>A⟩);.let⟨b,off,r⟩:=a;(have C:r=X:=by let⟨_,e,_,_,_,_,P,_⟩:=c 0 z;have B:=fy P;rw[fA]at B;unfold Addr.add at B;grind);subst C;(have E:∀i,∃t:jE,i<len->∃e g f k,aq w (b (off+i*4) X)=u e/\aq w (b (off+(i*4+1)) X)=u g/\aq w (b (off+(i*4+2)) X)=u f/\aq w (b (off+(i*4+3)) X)=u k/\oL (nA w) (kW w e) (kW w g) (kW w f) (kW w k) t/\IN t:=λi=>by by_cases hi:i<len;(.let⟨_,e,g,f,k,t,c0,c1,c2,c3,K,hs⟩:=c i hi;rw[dP,dP]at c0 c1 c2 c3;exact⟨t,λ_=>⟨e,g,f,k,c0,A,A,A,K,hs⟩⟩);.exact⟨⟨0,λ_=>0,0,λ_=>0,0,λ_=>0,0,λ_=>0⟩,λh=>zW h hi⟩);let⟨ts,q⟩:=Classical.skolem.1 E;refine⟨_,len,ts,rfl,⟨_,_,rfl,A,λ_=>⟨b,off,rfl,?_,λj=>(aq w<|b (off+j) X).getD J,λj T=>?_,λi hi=>?_⟩⟩,l,λi hi=>?_⟩;(.let⟨e,_,_,_,c0,_⟩:=q 0 z;exact dM w _ c0);(. (have s:j/4<len:=A);let⟨e,g,f,k,c0,c1,c2,c3,_⟩:=q (j/4) s;(have:j=j/4*4\/j=j/4*4+1\/j=j/4*4+2\/j=j/4*4+3:=A);grind);(.grind);grind
def aae{T:V}(hT:cZ ao T=cZ ao 42)(F:Tryz.prog.cellsOf T=6){r:Reach}{b0:V}{v:y}{d:bJ H}{p:L bZ}(hv:Value.okWide ao w r b0 T v)(h:DataW.Trod enc ao w base (λ_=>ak) held T v d p)(hB:bn d<=1048576):∃(nb nl ns:V)(fb fs:V->Y)(ts:V->jE)(a b c:Y)(vB vL M:y),v=aM #[vB,a,b,c,vL,M]/\kY (nA w) (kW w vB) 1 nb fb/\sV (nA w) (kW w vL) nl ts/\kY (nA w) (kW w M) 2 ns fs/\nb<=1048576/\(nl<=250000/\nl*5<=bn d)/\ns<=1048576/\(∀i,i<nl->IN (ts i))/\∀j,j<ns->(cD ah<|fs<|2*j+1).wf=ak:=by
 obtain⟨N,rfl,ac⟩:=gC (aT hT fH) hv;let⟨aa,P⟩:=h;let⟨xs,k,_,hd,hl,q,Q⟩:=dH (aT hT fH) P;simp only[Prod.mk.injEq]at hd;have m:=q;have hb:=Mq (xs.map (·.1));obtain⟨D,o,x,rfl⟩:=aff m;have part:∀E,E∈[D,o,x]->bn E.1<=1048576:=λE hy=>by have h1:=Gb (l:=[D,o,x].map (·.1))<|dy.2 ⟨E,hy,rfl⟩;grind
 have g0:bC enc ao w base (λ_=>ak) held k 24 (((aM N).cells.toList.drop 0).take<|Tryz.prog.cellsOf 24)=u D:=Q 0 _ rfl;have C:bC enc ao w base (λ_=>ak) held k 25 (((aM N).cells.toList.drop 4).take<|Tryz.prog.cellsOf 25)=u o:=Q 1 _ rfl;have O:bC enc ao w base (λ_=>ak) held k 26 (((aM N).cells.toList.drop 5).take<|Tryz.prog.cellsOf 26)=u x:=Q 2 _ rfl;rw[acG]at g0;rw[aio]at C;rw[ajw]at O;have R:=aT hl F;let⟨q0,q1,q2,q3,q4,q5,B⟩:=Zq R;have g:=B;rw[g]at g0 C O;let⟨vL,nl,ts,cL,rL,sL,G⟩:=afo C<|part o F0;replace rL:=XH rL (OV dQ (by rw[Tq];omega)<|cL▸C);let⟨M,ns,fs,S,rS,sS,wS⟩:=FJ dR WO A akX O<|part x F0;let⟨zs,k',_,ad,al,n,f⟩:=dH Tryz.underlying24 g0;have e:=n;obtain⟨t,z1,W,z3,rfl⟩:=TF e;have K:bn t.1<=1048576:=by have h1:=Gb (d:=t.1) (l:=[t,z1,W,z3].map (·.1)) F0;have h2:=Mq ([t,z1,W,z3].map (·.1));grind
 have e0:bC enc ao w base (λ_=>ak) held k' 22 ((([q0,q1,q2,q3,q4,q5].drop 0).take 4).drop 0|>.take (Tryz.prog.cellsOf 22))=u t:=f 0 _ rfl;have e1:=f 1 _ rfl;have e2:=f 2 _ rfl;have e3:=f 3 _ rfl;rw[WZ]at e0;let⟨vB,nb,fb,cB,rB,sB,_⟩:=FJ dI Lp A Ow e0 K;let⟨a,ha,_⟩:=yD e1 rfl;let⟨b,s,_⟩:=yD e2 rfl;let⟨c,z,_⟩:=yD e3 rfl;simp at ha s z cB cL S;subst ha s z cB cL S;exact⟨nb,nl,ns,fb,fs,ts,a,b,c,_,_,_,C7 aM<|fI B,rB,rL,rS,sB,⟨sL.1,by have h1:=Gb (d:=o.1) (l:=[D,o,x].map (·.1)) F0;grind⟩,sS,G,λj hj=>wS _ A⟩
end
def aat{W:ai}{m:V}{v:y}{q:L bZ}(h:bC (funcToken ao) ao W 0 (λ_=>ak) ak m 250 [v]=u (.nil,q)):v=cx:=by cases m with|zero=>simp[bC]at h|succ m=>cases v<;>simp[bC,fJ]at h⊢
def aba:Tryz.prog.cellsOf 250=1:=vI
def Zh:Tryz.prog.cellsOf 251=11:=vI
def yo(r:L UInt8):L UInt8:=111::([114,100,101,114,108,121,47,99,111,100,101,46,115,116,101,112,115,36]++r)
def WU:L<|bJ<|L UInt8:=.nil::[[49],[50],[51],[52],[53],[54],[55],[56],[57],[49,48]].map (λl=>.held<|yo l)
def SB(W:ai)(m:V)(v:y)(x:bJ<|L UInt8):U:=∃q,bC (funcToken ao) ao W 0 (λ_=>ak) ak m 250 [v]=u (x,q)
def Bv{W:ai}{m:V}{v:y}{r:L UInt8}{a:FuncId}(h:SB W m v<|.held<|yo r)(b:((bI Tryz.prog.funcs).filter λf=>(Tryz.prog.funcs[f]?).any (·.name.toUTF8.data.toList==yo r))=[a]):u v=u (bK (bU a) #[] #[]):=let⟨_,h⟩:=h;C7 u (func_of_trod fJ b h)
def uC{W:ai}{m:V}:∀{i:V}{v:y}(hi:i<11),SB W m v (WU[i]?.getD .nil)->u v=wm.toList[i]?|0,_,_,⟨_,h⟩=>C7 u (aat h)|1,_,_,h=>Bv h vI|2,_,_,h=>Bv h vI|3,_,_,h=>Bv h vI|4,_,_,h=>Bv h vI|5,_,_,h=>Bv h vI|6,_,_,h=>Bv h vI|7,_,_,h=>Bv h vI|8,_,_,h=>Bv h vI|9,_,_,h=>Bv h vI|10,_,_,h=>Bv h vI|n+11,_,h,_=>A
def Yj{W:ai}(h:laidMetH ao [("orderly/code.steps",eG)] W):W.var? ao "orderly/code.steps"=u wm:=by
 let⟨g,t,e,a,p,r,o,k,hd⟩:=h.funcs (n:= "orderly/code.steps")<|List.mem_cons_self ..;obtain rfl:=bE ((show(Tryz.prog.globals[0]?).map (·.type)=u 251 by kernel_rfl).symm.trans ((bE<|(show Tryz.prog.globalNamed "orderly/code.steps"=u 0 by kernel_rfl).symm.trans r)▸o));have hd:bC (funcToken ao) ao W 0 (λ_=>ak) ak a 251 e.toList=u (.agg WU,p):=hd;let⟨d,m,_,c,s,b,f⟩:=DataW.trod_array Tryz.underlying251 hd;simp only[Prod.mk.injEq,DataW.agg.injEq]at c;rw[Zh]at s;rw[aba]at f;rw[k];congr 1;refine fI<|fK λi=>?_;by_cases hi:i<11;.have q:=cd (l:=e.toList) (i:=i) A;have j:=cd (l:=d) (i:=i) A;have:=f i hi;rw[j,fL,List.drop_eq_getElem_cons A]at this;rw[q];refine uC (W:=W) (m:=m) hi ⟨(d[i]' A).2,?_⟩;rw[c.1,dw,j];exact this
 .rw[dS A,dS<|by show 11<=i;omega]
def OW{W:ai}(h:laidMetH ao [("orderly/code.steps",eG)] W)(b:W.ShapedOpen ao):∃t0,W.heap[0]?=u (ay wm t0)/\vr ⟨W.heap,W.os,W.output⟩ t0:=by
 have a:=Yj h;let⟨e,_⟩:=b;have d:((((begin ao (λ_ _=>0) default).world).heap[0]?).bind Obj.row?).isSome=ak:=vI
 let⟨⟨zero,t⟩,d⟩:=fM.1 d;let⟨f,c,_⟩:=e 0 zero t (by exact of_decide_eq_true vI) d;have:f=wm:=by unfold World.var? at a;rw[show Tryz.prog.globalNamed "orderly/code.steps"=u 0 by kernel_rfl]at a;simp only[Option.bind_some,c]at a;exact bE a
 subst this;exact⟨t,c,_,c,F0⟩
def Ku(W:ai)(vB vL d:y)(a b c:Y):kW W (aM #[vB,a,b,c,vL,d])=aM #[kW W vB,a,b,c,kW W vL,kW W d]:=by rw[kW];simp only[yg];rw[show kW W a=a by rw[kW],show kW W b=b by rw[kW],show kW W c=c by rw[kW]]
end
section
open Go.RowKit Go.Rel Go.Conc Go.ChangeShapes Go.WideShapes Go.ChangeAt Go.Proofs.YtldeiiffabfmeaaGreatDoor
def PM:ownKnob Tryz.prog.godebug=X:=vI
def EC:laidOutB ao=ak:=vI
def EI(W a:ai):U:=(a.os=W.os/\a.output=W.output)/\∀b,b<W.heap.size->a.heap[b]?=W.heap[b]?
def EI.mW{W:ai}(h:EI W j){p:bZ}(a:p.block<W):W.sameAt j p:=by cases p with|cell b o=>exact fN<|h.2 b a|map b=>exact h.2 b a
def EI.PU{W:ai}(h:EI W j)(a:bZ->U):W.keptBut j a:=by refine⟨h.1.1,h.1.2,λi hi=>?_⟩;rw[h.2 i hi];grind
def OX{p:Pinned}{s:OpenSpec}{c:eH}(f:FuncId)(fn:Func)(hn:c.program=p.name)(hs:c.sum=p.sum)(an:c.spec=s.name)(a:c.start=.entering)(e:c.outside=[])(Q:c.inits=[])(P:c.under=X)(O:c.initsInPlace=[]/\c.initsUnfollowed=au/\c.initsRecurse=au/\c.initsNamed=[]/\c.initsPassed=[])(jX:c.noBlocks=au)(aV:c.leaving=ak)(m:c.followed=X)(G:c.narrowed=s.cond.isSome)(i:c.still=au)(a3:p.checked.prog.funcNamed c.func=u f)(hf:p.checked.prog.funcs[f]?=u fn)(d:joinedFacts p.checked.prog f fn s.bare c=ak)(o:fn.isInstance p.checked.prog c.origin c.targs)(j:fn.isWrapper p.checked.prog c.wrapper c.mainSum)(h:∀os:Os,os.Started->∀(H:Type)(b:aY×y->H),∀F:Stop.Interp,ReturnsInLeavingWide c.assume p.checked os f .any (c.pre b p.checked.prog fn s) ((s.at F).post b p.checked.prog fn c.apart c.fresh c.handsOn c.again)):c.holds p s:=by
 simp only[joinedFacts,bQ,DB,fa,dF,DA]at d;let⟨⟨⟨⟨⟨⟨⟨⟨⟨⟨⟨⟨⟨⟨⟨⟨⟨⟨⟨⟨⟨⟨⟨⟨⟨⟨⟨⟨⟨⟨⟨y1,y2⟩,y3⟩,y4⟩,y5⟩,y6⟩,y7⟩,y8⟩,R⟩,av⟩,M⟩,aB⟩,aC⟩,S⟩,ad⟩,N⟩,aS⟩,W⟩,aI⟩,aa⟩,aw⟩,aR⟩,T⟩,D⟩,a0⟩,x⟩,al⟩,aL⟩,ac⟩,a2⟩,aG⟩,a1⟩:=d;have E:∀os:Os,Stop.quiet p.checked.prog os:=λos k hk=>by rw[R]at hk;cases hk
 have B:c.startFits p.checked.prog:=by unfold OpenClaim.startFits;rw[a];exact x
 have K:c.startTold p.checked.prog:=by unfold OpenClaim.startTold;rw[a];exact⟨Q,P,O⟩
 have l:namedTie p.checked.prog c.namedList s.vars=ak:=by unfold OpenClaim.namedList;rw[m];exact y5
 have t:p.checked.prog.envWorded=ak:=by unfold Program.envWorded;rw[R];rfl
 have g:∃os:Os,c.world os/\Stop.quiet p.checked.prog os:=⟨_,by unfold OpenClaim.world;rw[e,a];exact WideRow.started_initial,E _⟩;have r:c.lists p.checked.prog []:=by unfold OpenClaim.lists;rw[m]
 have q:∀os:Os,c.world os->∀(H:Type)(b:aY×y->H),c.form p.checked os f [] (c.pre b p.checked.prog fn s) (λF w z v w'=>s.post b p.checked.prog fn F c.outside c.apart c.fresh c.handsOn c.again w z v w'/\c.nothingLetGo w w'):=by intro os C H b;(have st:os.Started:=by unfold OpenClaim.world at C;rw[e,a]at C;exact C);rw[OpenClaim.post_not_still i];unfold OpenClaim.form;rw[a,y6];intro F;(have hI:c.okInput=Input.okWide:=by unfold OpenClaim.okInput;rw[jX]);(have hR:c.atReturn p.checked.prog=leavingAtReturn p.checked.prog:=by unfold OpenClaim.atReturn;rw[aV]);(have hA:c.always p.checked.prog []=nothingAlways:=by unfold OpenClaim.always;rw[m]);(have hP:s.post b p.checked.prog fn F c.outside c.apart c.fresh c.handsOn c.again=(s.at F).post b p.checked.prog fn c.apart c.fresh c.handsOn c.again:=by rw[e];rfl);have:=h os st H b F x;rw[hI,hR,hA];show ReturnsInOpen _ _ _ _ _ _ _ _ (s.post b p.checked.prog fn F c.outside c.apart c.fresh c.handsOn c.again) _ _;rw[hP];exact this
 exact⟨y1,hn,hs,an,y2,y3,B,K,f,fn,a3,hf,⟨y4,aa⟩,(λhb=>by rw[jX]at hb;cases hb),l,o,j,aT y6 y7.symm,⟨aT y8 R.symm,t,a0⟩,av,M,aB,aC,S,⟨ad,aG,a1⟩,⟨N,aw⟩,⟨aS,aR,ac,a2⟩,⟨T,al,aL,W⟩,(by rw[e,G];cases aW:c.shortTexts with|none=>simp|some _=>rw[aW]at D;cases D),λn am=>varReadable_some<|aI n am,g,[],r,λos C _ H b _=>q os C H b⟩
def ON{p:Pinned}{s:OpenSpec}{c:eH}(b:L LaidKind)(a:I)(d:I×String)(lk:I)(n:c.holds p s)(v:c.wfByText s=ak)(e:c.laidByTextAt .later p b a)(g:c.start=.entering)(jX:c.noBlocks=au/\c.again=au)(i:p.checked.prog.mainIs=u (d.1,d.2.toList))(q:(!d.1&&d.2.isEmpty&&!lk)=au)(l:∀f fn,p.checked.prog.funcNamed c.func=u f->p.checked.prog.funcs[f]?=u fn->lk=p.checked.prog.looks []/\∀(j:V)t,fn.params[j]?=u t->p.checked.prog.wantsStandIn t=au)(o:ak=c.goesBy p.checked.prog):Claim7.holds p (.plain s) {stood:={row:=c,standIns:=[],harness:=d,looks:=lk},kinds:=[],alts:=[],goes:=ak,laidByText:=ak,laidKinds:=b,laidTests:=a,laidLooks:=.later}:=by
 have m:∀r:eH,Claim7.isSixth {stood:={row:=r,standIns:=[],harness:=d,looks:=lk},kinds:=[]}=au:=λr=>by simpa[Claim7.isSixth]using q
 exact⟨Claim7.tied_new_at .later b a (Claim7.new_of_sixth n d lk g jX i (m c) l) v,(λD k=>by cases k),e,(λh=>by cases h),o⟩
def Pt(os:Os)(a:Z y):laidMetH ao [("orderly/code.steps",eG)] ((World.doorLaid ao 600 os).forCall (λ_ _=>0) ⟨#[],a,[]⟩).memory:=laidMetH_of_parts3 (fuel:=8) (laidMet_of_run' 8 vI vI) vI vI
def zS:y:=aM #[ae X 0 0,aj ah 0,aj ah 0,aj ah 0,ae X 0 0,ae X 0 0]
end
end Go.Proofs.YtldeiiffabfmeaaGreatDoor.Kp
