/- - -/
import Derived.Conc.Beside
import Derived.Conc.Listed
import Derived.Conc.CrowdTrace
import Derived.Conc.CrowdStepW
import Derived.Test.YtldeiiffabfmeaaGreatDoorAgm
import Derived.Test.YtldeiiffabfmeaaGreatDoorUam
set_option linter.all false
set_option maxRecDepth 100000
set_option maxHeartbeats 4000000
open Go renaming World->H,undef->O,Frame->V,Value->W,Goroutine->Y,Program->B,Code->A,Event->ak,Addr->an,Trace->ar,Deferred->aV,FuncId->aW,TypeId->aX,MemOp->bh,CallKind->bu,HappensBefore->bE
open Option renaming some->K,none->Q,getD_some->aK,map_eq_some_iff->bg,map_some->bF
open Or renaming inl->Z,inr->ai
open Go.Value renaming int->F,slice->ae,pointer->aj,bool->aq,agg->aF,oneCell'->bz,iface->bH
open Go.Proofs.Tryz renaming prog->z,f109->bd,f131->bG,func131->bV
open Bool renaming true->M,false->ah,false_eq_true->bl,not_true->bI
open Go.IntKind renaming i64->I
open Go.Obj renaming cells->ao
open Go.Conc renaming Deaf_other->au,Goes->aE,Deaf->aI,mem_ofEvents->aM,Deaf_own->bq
open Go.Loc renaming cell->ax,obj->aG,low->aH
open Go.MemAct renaming ofEvent->ay,touch?->az
open Go.MemOp renaming ofEvents->aA
open Go.ConcN renaming WgLive->aD,CTag->aY,Mode->bX
open Go.ConcR renaming Payload->aJ,again_blocked->bY
open Go.GoStatus renaming running->aN
open Go.Item renaming inRegion->aP
open Option.some renaming injEq->aQ,inj->bO
open Nat renaming le_trans->aU,strongRecOn->bB,eq_zero_or_pos->bK,le_refl->bP,lt_or_ge->bQ,lt_of_not_le->bT
open Go.Exit renaming normal->aZ
open List renaming forall_mem_cons->bj
open Array renaming getElem?_eq_getElem->bm,getElem?_eq_some_iff->bn,getD_eq_getD_getElem?->bA,getElem?_setIfInBounds_ne->bC,getElem?_map->bD,mem_iff_getElem->bJ,empty_append->bM,getElem?_setIfInBounds_self_of_lt->bN,mem_of_getElem?->bU
open Go.World renaming cell?->bw
open Classical renaming byContradiction->bR
variable{v x y b e:Nat}{h l o r:List V}{N:Array ak}{X:String}
namespace Go.Rel
noncomputable section
open Go.Conc Go.ConcN
variable{ok:iO}{ρ ρ':iI}{P:B}{S:List V->H->Prop}
inductive Fs(ok:iO)(P:B)(ρ:iI):List V->List V->Prop|nil:Fs ok P ρ [] []|cons{f f':V}(h:m7 ok P ρ f f')(hp:Plain f'){l l':List V}(hs:Fs ok P ρ l l'):Fs ok P ρ (f::l)<|f'::l'
def Fs.mono(c:ρ.le ρ'){l:List V}(h:Fs ok P ρ l o):Fs ok P ρ' l o:=by induction h with|nil=>exact .nil|cons h a _ b=>exact .cons (h.mono c) a b
def Fs.append{l m:List V}(h:Fs ok P ρ l o)(g:Fs ok P ρ m r):Fs ok P ρ (l++m)<|o++r:=by induction h with|nil=>exact g|cons h a _ b=>exact .cons h a b
def Fs.parts{l m:List V}:∀{x:List V},Fs ok P ρ (l++m) x->∃b a,x=b++a/\Fs ok P ρ l b/\Fs ok P ρ m a:=by induction l with|nil=>intro x h;exact⟨[],x,rfl,.nil,h⟩|cons f l e=>intro x h;cases h with|cons h c hs=>obtain⟨b,a,rfl,g,d⟩:=e hs;exact⟨_::b,a,rfl,.cons h c g,d⟩
def Fs.Gl{l:List V}(h:Fs ok P ρ l o)(ne:l≠[]):mH ok P ρ l o:=by induction h with|nil=>grind|cons h a hs d=>cases hs with|nil=>exact .one h|cons e b c=>exact .cons h a<|d (by simp)
def mH.fs{l:List V}(h:mH ok P ρ l o)(b:∀f∈o,Plain f):Fs ok P ρ l o:=by induction h with|one h=>exact .cons h (b _<|by simp) .nil|cons h a hs d=>exact .cons h a<|d λf c=>b f (by simp[c])
def Fs.plain{l:List V}(h:Fs ok P ρ l o):∀f∈o,Plain f:=by induction h with|nil=>simp|cons h a _ b=>grind
def Fs.ghost{l:List V}(h:Fs ok P ρ l o):∀f∈l,f.defers=[]/\f.kind=.normal:=by induction h with|nil=>simp|cons h b _ a=>exact bj.2 ⟨⟨h.defers,h.kind⟩,a⟩
def Fs.ne{l:List V}(h:Fs ok P ρ l o)(ne:l≠[]):∃f x,o=f::x:=by cases h with|nil=>grind|cons=>simp
def Nv{l:List V}{w u:H}(C:∀f∈l,Plain f)(d:(own P l).runT P w #[]=(.ok o u,N)):∀f∈o,Plain f:=by cases l with|nil=>cases d|cons fr e=>have j:=C fr (by simp);have s:∀f∈e,Plain f:=λf h=>C f (by simp[h]);obtain⟨fn,tmps,todo,defers,mode,kind,round⟩:=fr;have one:∀{g:V},Plain g->∀f∈g::e,Plain f:=λT=>bj.2 ⟨T,s⟩;(have jr:∀{k:List Item}{m:FrameMode},(Sem.pure<|⟨fn,tmps,k,defers,m,kind,round⟩::e).runT P w #[]=(.ok o u,N)->∀f∈o,Plain f:=by intro k m h;cases h;exact one ⟨j.defers,j.kind⟩);(have fin:∀{v:W}{G:H}{p:Array ak},(Sem.pure<|Frame.finish ⟨fn,tmps,todo,defers,mode,kind,round⟩ v::e).runT P G p=(.ok o u,N)->∀f∈o,Plain f:=by intro v G p h;cases h;exact one<|j.finish _);unfold own at d;simp only at d;cases mode with|panicking c=>cases d|returning=>(cases e with|nil=>cases d|cons c e=>cases U:P.funcs[fn]? with|none=>simp_all|some f=>rw[U]at d;simp only at d;rw[oA]at d;cases R:(results f tmps).runT P w #[]with|mk r t=>rw[R]at d;cases r with|halt x w1=>cases d|ok v w1=>cases d;exact bj.2 ⟨(s c<|by simp).finish _,λf h=>s f<|by simp[h]⟩)|run=>cases todo with|nil=>exact jr d|cons it k=>cases it with|code c=>(cases c with|skip=>exact jr d|ret=>exact jr d|seq a b=>exact jr d|block id b=>exact jr d|loop b=>exact jr d|cond c x y=>simp only at d;split at d;(.exact jr d);.cases d|exit id=>simp only at d;split at d;(.exact jr d);.cases d|region id ops q=>simp only at d;(cases q with|false=>exact jr d|true=>simp only[bI,bl,if_false]at d;rw[oA]at d;simp only[choose,Sem.runT,Question.forced,bl,if_false]at d;cases d;exact one ⟨j.defers,j.kind⟩)|_=>cases d)|inBlock id=>exact jr d|inLoop b=>exact jr d|inRegion ops l=>(cases l with|nil=>exact jr d|cons i rest=>simp only at d;cases E:ops[i]? with|none=>rw[E]at d;exact fin d|some L=>rw[E]at d;simp only at d;split at d;(.rw[oA]at d;generalize(execOp _ L).runT P w #[]=J at d;obtain⟨r,t⟩:=J;cases r with|halt x w1=>cases d|ok n w1=>cases n with|value v=>exact fin d|skip=>exact fin d|enter f D=>cases d;exact bj.2 ⟨⟨rfl,rfl⟩,one j⟩|_=>cases d);.exact fin d)|_=>cases d
def sQ(ok:iO)(P:B)(l:List V)(w:H):Prop:=∃(a:iI)(la:List V)(b:H),Fs ok P a l la/\jz ok a w b/\oV ok a
def sQ.self{l m:List V}{w:H}(h:sQ ok P (l++m) w)(hF:sf ok P l)(ne:l≠[]):Self ok P l w:=let⟨e,_,d,a,f,b⟩:=h;let⟨c,_,_,k1,_⟩:=a.parts;⟨hF,e,c,d,k1.Gl ne,f,b⟩
structure qX(ok:iO)(P:B)(ρ:iI)(l:List V)(wh:H)(gs:Array Y)(w:H)(t:ar)(q:Nat->Nat)(Shun:Loc->Prop):Prop where
 ne:l≠[]
 g0:∃la,gs[0]?=some (G (la.headD iF) la.tail)/\Fs ok P ρ l la
 lv:Leavers P t gs q
 AZ:Past Shun w.heap.size t
 qJ:jz ok ρ wh w
 kV:oV ok ρ
 Dq:∀b b',ρ b b'->(∀a:an,a.block=b'->¬Shun (ax a))/\¬Shun (aG b')
 low:∀x,Shun x->x.low w.heap.size
 iR:∀b',b'<ok.old.heap.size->w.heap[b']?=ok.old.heap[b']?
 tG:∀b b',ρ b b'->b'<ok.old.heap.size->kC wh b
def qX.self{l:List V}{wh:H}{gs:Array Y}{w:H}{t:ar}{q:Nat->Nat}{a:Loc->Prop}(h:qX ok P ρ l wh gs w t q a):sQ ok P l wh:=let⟨la,_,b⟩:=h.g0;⟨ρ,la,w,b,h.qJ,h.kV⟩
def UA{c:Loc->Prop}{n:Nat}(h:∀x,c x->x.low n){b:Nat}(d:n<=b):(∀a:an,a.block=b->¬c (ax a))/\¬c (aG b):=⟨λa e hs=>by have:=h _ hs;simp only[aH]at this;omega,λhs=>by have:=h _ hs;simp only[aH]at this;omega⟩
def adI{w wh:H}{c:Loc->Prop}(l:jz ok ρ wh w)(hs:∀b j,ρ b j->(∀a:an,a.block=j->¬c (ax a))/\¬c (aG j)){e:ak}(h:vn ρ wh e):EvL c w.heap.size e:=by obtain⟨k,wr,q⟩:=e;cases k with|cell a=>obtain⟨i,b,g,n⟩:=h;simp only at i g;subst i;exact evL_cell a wr ((hs _ _ g).1 a rfl) (l.lt g).2|obj r=>obtain⟨i,b,g,n⟩:=h;simp only at i g;subst i;(have e:ay ⟨aG r,wr,ah⟩=.access ⟨aG r,wr,ah⟩:=by cases wr<;>rfl);refine⟨λx d o=>?_,by simp,by simp,?_⟩;(.rw[e]at d;simp only[az,aQ]at d;grind);.rw[e];exact(l.lt g).2|mark m=>have p:=h;(cases m with|extern f=>exact⟨λx d=>by simp[ay,az]at d,by simp,by simp,trivial⟩|noRoom=>exact⟨λx d=>by simp[ay,az]at d,by simp,by simp,trivial⟩|_=>exact p.elim)|_=>exact h.elim
def QF(aX:Fits ok P)(aY:mM ok P)(base:List V){l:List V}{wh:H}(h:∀τ d,∃l' w' es,(own P l).runT P (wh.re τ d) #[]=(.ok l' w',es))(ne:l≠[])(hd:rj ok P l):∀{ρ:iI}{gs:Array Y}{w:H}{sl:Option<|Nat×Nat}{t:ar}{q:Nat->Nat}{m:Loc->Prop},qX ok P ρ (l++base) wh gs w t q m->∃N ρ' ak w' J t' q' l' ap τ d es,runNT P N (crowd gs w sl) t=(.next<|crowd ak w' J,t')/\(own P l).runT P (wh.re τ d) #[]=(.ok l' ap,es)/\qX ok P ρ' (l'++base) ap ak w' t' q' m/\ρ.le ρ'/\l'≠[]/\(∀b f,ρ' b f->ρ b f\/w.heap.size<=f)/\w.heap.size<=w'.heap.size/\ak.size=gs.size:=by intro ρ gs w sl t q m c;generalize hM:sumTo gs.size q=aW;induction aW using bB generalizing gs w sl t q with|_ aW aK=>obtain⟨aZ,aS,aw⟩:=c.g0;obtain⟨la,v,rfl,D,aJ⟩:=aw.parts;obtain⟨fr,X,rfl⟩:=D.ne ne;have h0:=aS;(have aE:∀g∈gs,awake g:=by intro g hg;obtain⟨i,hi,rfl⟩:=bJ.1 hg;rcases bK i with rfl|C;(. (have:gs[0]=G fr (X++v):=by grind);rw[this];exact awake_of<|Z rfl);.exact awake_of<|(c.lv.old i _ C<|bm hi).status.elim Z λx=>ai (ai x));obtain⟨i,g,d,J,hi,hg,aC⟩:=crowd_pick (P:=P) (w:=w) (sl:=sl) aE ⟨0,_,h0,rfl⟩;rcases bK i with rfl|C;(. (obtain rfl:g=G fr (X++v):=by grind);obtain⟨l1,w1,es,hr⟩:=h w.tape d;have hW:jz ok ρ (wh.re w.tape d)<|w.at d:=⟨c.qJ.inj,c.qJ.gs,c.qJ.zero,c.qJ.obj,c.qJ.out⟩;have hL:=D.Gl ne;obtain⟨al,b,U,aO,g1,g2,u⟩:=Ad _ (zX aX aY c.qJ.inj c.kV hL hd) hW hr λi hi=>rfl;have aL:=Nv D.plain g1;simp only[bM]at g1;(have ae:m7 ok P ρ (l.headD iF) fr:=by cases D with|cons h hp hs=>exact h);have az:=D.plain fr (by simp);obtain⟨gf,E,rfl,aD⟩:=EJ M v ae.tA ae.early (λ_=>az) g1;have p:=runT_crowd_go (sl:=J) hi<|show stepG P (0==0) (G fr<|X++v) (w.at d)=_ from aD;have L:=(bn.1 h0).1;(have T:((gs.map<|woken P (G fr<|X++v) (G gf<|E++v) U).setIfInBounds 0<|G gf<|E++v).size=gs.size:=by simp);(have ad:∀b f,al b f->(∀a:an,a.block=f->¬m (ax a))/\¬m (aG f):=by intro b f o;rcases u.new o with o|⟨_,o⟩;(.exact c.Dq b f o);.exact UA c.low o);have ac:=g2.fs aL;(have av:l1≠[]:=by intro e;subst e;cases ac);(have ao:qX ok P al (l1++base) w1 ((gs.map<|woken P (G fr<|X++v) (G gf<|E++v) U).setIfInBounds 0<|G gf<|E++v) U (t++aA 0 fr.fn fr.place (seen P fr.fn aO)) q m:=by refine⟨by simp[av],⟨(gf::E)++v,by simp[L],ac.append<|aJ.mono u.le⟩,⟨λj x R s=>?_,λj R=>?_⟩,?_,u.rel,c.kV.mono u.le,ad,λx s=>Loc.low_mono u.vR<|c.low x s,λf n=>?_,λb f o n=>?_⟩;(. (have am:0≠j:=by omega);rw[bC am,bD]at s;obtain⟨y,hy,rfl⟩:=bg.1 s;have hq:=c.lv.old j y R hy;rw[woken_quitsD hq,au t (by omega) _ λop r=>by obtain⟨e,_,rfl⟩:=aM r;rfl];exact hq);(.rw[au t (g':=0) (by simp at R;omega) _ λop r=>by obtain⟨e,_,rfl⟩:=aM r;rfl];exact c.lv.above j<|by simpa using R);(.exact(c.AZ.mono u.vR).own λe he=>adI u.rel ad (u.ev e<|by simpa using mem_seen he));(. (have aj:f<(w.at d).heap.size:=by have:=c.iR f n;rw[bm n]at this;exact(bn.1 this).1);refine Eq.trans ?_<|c.iR f n;by_cases s:∃b,ρ b f;(.obtain⟨b,s⟩:=s;exact(u.shut b<|c.tG b f s n).2 f s);.exact u.out f aj λb o=>s ⟨b,o⟩);. (have aj:f<(w.at d).heap.size:=by have:=c.iR f n;rw[bm n]at this;exact(bn.1 this).1);rcases u.new o with o|⟨_,o⟩;(.exact(c.tG b f o n).congr (u.shut b<|c.tG b f o n).1);.omega);refine⟨1,al,_,U,J,_,q,l1,w1,w.tape,d,es,?_,hr,ao,u.le,av,λb f o=>(u.new o).imp id λx=>x.2,u.vR,T⟩;simp only[runNT,aC,p];rfl);.have hq:=c.lv.old i g C hi;(have aF:(i==0)=ah:=by simp;omega);have L:=(bn.1 hi).1;cases aB:q i with|zero=>rw[aB]at hq;rw[hq.1]at hg;cases hg|succ k=>rw[aB]at hq;rcases hq with⟨hf,_⟩|⟨_,g',es,hm,ay,aP⟩;(.rw[hf]at hg;cases hg);have p:=runT_crowd_go (sl:=J) hi (by rw[aF];exact ay<|w.at d);(have T:((gs.map<|woken P g g'<|w.at d).setIfInBounds i g').size=gs.size:=by simp);(have aV:sumTo gs.size (upd q i k)+(k+1)=sumTo gs.size q+k:=by have:=sumTo_upd q k id L;simp_all);(have ao:qX ok P ρ (l++base) wh ((gs.map<|woken P g g'<|w.at d).setIfInBounds i g') (w.at d) (t++aA i g.frame.fn g.frame.place es) (upd q i k) m:=by refine⟨c.ne,⟨(fr::X)++v,?_,aw⟩,⟨λj x R s=>?_,λj R=>?_⟩,c.AZ.mute (by omega) hm,⟨c.qJ.inj,c.qJ.gs,c.qJ.zero,c.qJ.obj,c.qJ.out⟩,c.kV,c.Dq,c.low,c.iR,c.tG⟩;(. (have am:i≠0:=by omega);rw[bC am,bD,h0];simp[woken_run<|show(G fr<|X++v).status=aN from rfl]);(.by_cases aa:i=j;(.subst aa;rw[bN<|by simpa using L]at s;obtain rfl:=bO s;rw[upd_same,bq];exact aP);.rw[bC aa,bD]at s;obtain⟨y,hy,rfl⟩:=bg.1 s;have aq:=c.lv.old j y R hy;rw[woken_quitsD aq,upd_ne q k<|Ne.symm aa,au t aa _ λop r=>by obtain⟨e,_,rfl⟩:=aM r;rfl];exact aq);.rw[au t (g':=i) (by simp at R;omega) _ λop r=>by obtain⟨e,_,rfl⟩:=aM r;rfl];exact c.lv.above j<|by simpa using R);obtain⟨N,aU,aI,w2,aT,t2,q2,l2,aH,aQ,d2,aR,r1,r2,r3,r4,r5,r6,r7,r8⟩:=aK (sumTo gs.size<|upd q i k) (by omega) ao (by rw[T]);refine⟨N+1,aU,aI,w2,aT,t2,q2,l2,aH,aQ,d2,aR,?_,r2,r3,r4,r5,r6,r7,r8.trans T⟩;simp only[runNT,aC,p];exact r1
def agM(s:Fits ok P)(u:mM ok P)(base:List V){l:List V}{wh:H}(hs:Safe ok P S l wh):∀{ρ:iI}{gs:Array Y}{w:H}{sl:Option<|Nat×Nat}{t:ar}{q:Nat->Nat}{a:Loc->Prop},l≠[]->qX ok P ρ (l++base) wh gs w t q a->∃N ρ' c g n r D k e,runNT P N (crowd gs w sl) t=(.next<|crowd c g n,r)/\qX ok P ρ' (k++base) e c g r D a/\ρ.le ρ'/\k≠[]/\S k e/\(∀b f,ρ' b f->ρ b f\/w.heap.size<=f)/\w.heap.size<=g.heap.size/\c.size=gs.size:=by induction hs with|stop h=>intro ρ gs w sl t q a ne m;exact⟨0,ρ,gs,w,sl,t,q,_,_,rfl,m,iI.le.refl _,ne,h,λ_ _ h=>Z h,bP _,rfl⟩|@step l wh hd h hs v=>intro ρ gs w sl t q a ne m;obtain⟨N,J,x,w1,U,t1,q1,l1,R,y,d,es,r1,r2,r3,r4,r5,r6,r7,r8⟩:=QF s u base h ne hd m;obtain⟨C,o,j,L,i,t2,q2,T,p,k1,k2,k3,k4,k6,X,E,G⟩:=v y d _ _ _ r2 r5 r3;refine⟨N+C,o,j,L,i,t2,q2,T,p,?_,k2,r4.trans k3,k4,k6,λb f hb=>?_,aU r7 E,G.trans r8⟩;(.rw[runNT_add,r1];exact k1);grind
end
noncomputable section
open Go.Conc Go.ConcN
structure Tl(Sh Old:Loc->Prop)(jB:Nat->Prop)(Own Rd:Nat->Loc->Prop)(t:ar):Prop where
 quiet:Quiet Sh t
 own:∀g,jB g->∀l,Own g l->Perm t g l
 rd:∀g,jB g->∀l,Rd g l->PermW t g l
 free:∀l,l.isMemory=true->¬Sh l->¬Old l->(∀g,jB g->¬Own g l/\¬Rd g l)->Perm t 0 l
 mine:∀l,l.isMemory=true->¬Sh l->¬Old l->(∀g,jB g->¬Own g l)->PermW t 0 l
 old:∀i a,touchAt t i=some a->a.loc.isMemory=true->Old a.loc->Knows t 0 i\/a.kind=.atomic
 nr:∀said,¬Race said t
structure Fo(Sh Old:Loc->Prop)(jB:Nat->Prop)(Own Rd:Nat->Loc->Prop):Prop where
 own:∀g g' l,jB g->jB g'->Own g l->Own g' l->g=g'
 ownRd:∀g g' l,jB g->jB g'->Own g l->¬Rd g' l
 ownSh:∀g l,jB g->Own g l->¬Sh l/\¬Old l/\l.isMemory=true
 rdSh:∀g l,jB g->Rd g l->¬Sh l/\¬Old l/\l.isMemory=true
 agi:∀l,Old l->¬Sh l
 pos:∀g,jB g->g≠0
noncomputable section
variable{Sh Old:Loc->Prop}{jB:Nat->Prop}{Own Rd:Nat->Loc->Prop}{t u:ar}
def yX(Sh Old:Loc->Prop)(jB:Nat->Prop)(Own Rd:Nat->Loc->Prop)(op:bh):Prop:=op.g=0/\∀x,op.act.touch?=K x->(Sh x.loc/\x.kind≠.plain)\/(¬Sh x.loc/\(Old x.loc->x.kind≠.plain)/\(∀g,jB g->¬Own g x.loc)/\(x.write=M->∀g,jB g->¬Rd g x.loc))
def EL(Sh:Loc->Prop)(Own Rd:Nat->Loc->Prop)(g:Nat)(op:bh):Prop:=op.g=g/\∀x,op.act.touch?=K x->(Sh x.loc/\x.kind≠.plain/\x.kind≠.said)\/Own g x.loc\/(Rd g x.loc/\x.write=ah)
def Tl.app0(J:Fo Sh Old jB Own Rd)(h:Tl Sh Old jB Own Rd t)(j:∀op∈u,yX Sh Old jB Own Rd op):Tl Sh Old jB Own Rd<|t++u:=by
 refine⟨h.quiet.app λop c x w hs=>?_,λg m l d=>(h.own g m l d).app λop c b v e=>?_,λg m l d=>(h.rd g m l d).app λop c b v e N=>?_,λl k hs p d=>(h.free l k hs p d).app λop c _ _ _=>(j op c).1,λl k hs p d=>(h.mine l k hs p d).app λop c _ _ _ _=>(j op c).1,λi a o k p=>?_,λs=>?_⟩;.rcases(j op c).2 x w with⟨_,hk⟩|⟨L,_⟩;(.exact⟨hk,λ_=>(j op c).1⟩);grind
 .rcases(j op c).2 b v with⟨hs,_⟩|⟨_,_,L,_⟩;(.exact absurd (e▸hs) (J.ownSh g l m d).1);grind
 .rcases(j op c).2 b v with⟨hs,_⟩|⟨_,_,_,L⟩;(.exact absurd (e▸hs) (J.rdSh g l m d).1);grind
 .obtain⟨x,w,C⟩:=touch_of o;rcases getElem?_append_cases w with⟨_,G⟩|⟨_,E⟩;(.exact(h.old i a (by rw[touchAt_of G];exact C) k p).imp (·.app u) id);.have:=knows_own w;rw[(j x E).1]at this;exact Z this
 .refine noRace_append (h.nr s) (λop c=>(j op c).1) λi a o op c b v f=>?_;rcases(j op c).2 b v with⟨hs,hk⟩|⟨hs,p,r,y⟩;(.exact h.quiet.known hs hk (λ_=>rfl) i a o f);.by_cases n:Old b.loc;(.rcases h.old i a o f.2.1 (f.1▸n)with hk|hk;(.exact hk);.obtain⟨_,_,_,D⟩:=f;grind);.have k:=f.1▸f.2.1;cases q:b.write with|true=>exact h.free b.loc k hs n (λg m=>⟨r g m,y q g m⟩) i a o f.1|false=>exact h.mine b.loc k hs n r i a o f.1<|f.2.2.1.resolve_right (by simp[q])
def Tl.appW(k:Fo Sh Old jB Own Rd)(h:Tl Sh Old jB Own Rd t){g:Nat}(o:jB g)(n:∀op∈u,EL Sh Own Rd g op):Tl Sh Old jB Own Rd<|t++u:=by
 refine⟨h.quiet.app λop c x G hs=>?_,λq f l j=>(h.own q f l j).app λop c b m e=>?_,λq f l j=>(h.rd q f l j).app λop c b m e P=>?_,λl w hs d j=>(h.free l w hs d j).app λop c b m e=>?_,λl w hs d j=>(h.mine l w hs d j).app λop c b m e P=>?_,λi a s w d=>?_,λv=>?_⟩;.rcases(n op c).2 x G with⟨_,hk,N⟩|d|⟨p,_⟩;(.grind);(.exact absurd hs (k.ownSh g _ o d).1);.exact absurd hs (k.rdSh g _ o p).1
 .rcases(n op c).2 b m with⟨hs,_⟩|d|⟨p,_⟩;(.exact absurd (e▸hs) (k.ownSh q l f j).1);(.rw[(n op c).1];exact k.own g q l o f (e▸d) j);.exact absurd (e▸p)<|k.ownRd q g l f o j
 .rcases(n op c).2 b m with⟨hs,_⟩|d|⟨_,p⟩;(.exact absurd (e▸hs) (k.rdSh q l f j).1);(.exact absurd j<|k.ownRd g q l o f<|e▸d);grind
 .rcases(n op c).2 b m with⟨J,_⟩|d|⟨p,_⟩;(.grind);(.grind);grind
 .rcases(n op c).2 b m with⟨J,_⟩|d|⟨_,p⟩;(.grind);(.grind);grind
 .obtain⟨x,G,r⟩:=touch_of s;rcases getElem?_append_cases G with⟨_,D⟩|⟨_,L⟩;(.exact(h.old i a (by rw[touchAt_of D];exact r) w d).imp (·.app u) id);.rcases(n x L).2 a r with⟨hs,_⟩|E|⟨E,_⟩;(.exact absurd hs<|k.agi _ d);(.exact absurd d (k.ownSh g _ o E).2.1);.exact absurd d (k.rdSh g _ o E).2.1
 .refine noRace_append (h.nr v) (λop c=>(n op c).1) λi a s op c b m y=>?_;rcases(n op c).2 b m with⟨hs,hk,N⟩|d|⟨p,C⟩;(.exact h.quiet.known hs hk (λe=>absurd e N) i a s y);(.exact h.own g o b.loc d i a s y.1);.exact h.rd g o b.loc p i a s y.1<|y.2.2.1.resolve_right<|by simp[C]
def Tl.appMute(h:Tl Sh Old jB Own Rd t){g:Nat}(v:∀op∈u,op.g=g)(C:∀op∈u,op.act.touch?=Q):Tl Sh Old jB Own Rd<|t++u:=by
 have no:∀op∈u,∀b,op.act.touch?=K b->False:=λop c b d=>by grind
 refine⟨h.quiet.app λop c x r hs=>(no op c x r).elim,λq f l j=>(h.own q f l j).app λop c b d e=>(no op c b d).elim,λq f l j=>(h.rd q f l j).app λop c b d e y=>(no op c b d).elim,λl k hs n j=>(h.free l k hs n j).app λop c b d _=>(no op c b d).elim,λl k hs n j=>(h.mine l k hs n j).app λop c b d _ _=>(no op c b d).elim,λi a s k n=>?_,λm=>?_⟩;.obtain⟨x,r,o⟩:=touch_of s;rcases getElem?_append_cases r with⟨_,p⟩|⟨_,w⟩;(.exact(h.old i a (by rw[touchAt_of p];exact o) k n).imp (·.app u) id);grind
 .exact noRace_append (h.nr m) v λi a s op c b d D=>(no op c b d).elim
def Tl.grow(h:Tl Sh Old jB Own Rd t){g0:Nat}{New:Loc->Prop}(j:∀i a,touchAt t i=K a->¬New a.loc):Tl Sh Old jB (λg l=>Own g l\/(g=g0/\New l)) Rd t:=by
 refine⟨h.quiet,λg c l b=>?_,h.rd,λl d hs f b=>h.free l d hs f λg c=>⟨λx=>(b g c).1<|Z x,(b g c).2⟩,λl d hs f b=>h.mine l d hs f λg c x=>b g c (Z x),h.old,h.nr⟩;rcases b with b|⟨_,b⟩;.exact h.own g c l b
 .exactλi a k e=>absurd (e▸b)<|j i a k
def Tl.fork{g0:Nat}(q:Fo Sh Old (λg=>jB g\/g=g0) Own Rd)(h:Tl Sh Old jB Own Rd t)(E:¬jB g0){x y:bh}(C:x.g=0/\x.act=.go g0)(w:y.g=g0/\y.act=.start)(G:aI t 0=0)(hk:aI t g0=0):Tl Sh Old (λg=>jB g\/g=g0) Own Rd<|t++#[x,y]:=by
 have f:∀op∈#[x,y],∀b,op.act.touch?=K b->False:=by intro op c b d;simp only[List.mem_toArray,List.mem_cons,List.not_mem_nil,or_false]at c;rcases c with rfl|rfl;(.rw[C.2]at d;cases d);.rw[w.2]at d;cases d
 have old:∀{i:Nat}{a:Touch},touchAt (t++#[x,y]) i=K a->touchAt t i=K a:=by intro i a o;obtain⟨P,J,D⟩:=touch_of o;rcases getElem?_append_cases J with⟨_,v⟩|⟨_,N⟩;(.rw[touchAt_of v];exact D);grind
 refine⟨h.quiet.app λop c b d _=>(f op c b d).elim,λg j l k=>?_,λg j l k=>?_,λl p hs n k=>(h.free l p hs n λg j=>k g (Z j)).app λop c b d _=>(f op c b d).elim,λl p hs n k=>(h.mine l p hs n λg j=>k g (Z j)).app λop c b d _ _=>(f op c b d).elim,λi a o p n=>(h.old i a (old o) p n).imp (·.app _) id,λr=>?_⟩;.obtain⟨s1,s2,s3⟩:=q.ownSh g l j k;rcases j with j|rfl;(.exact(h.own g j l k).app λop c b d _=>(f op c b d).elim);.exactλi a o e=>fork_knows C w G hk<|h.free l s3 s1 s2 (λs m=>⟨λn=>E<|q.own s _ l (Z m) (ai rfl) n k▸m,q.ownRd _ s l (ai rfl) (Z m) k⟩) i a (old o) e
 .obtain⟨s1,s2,s3⟩:=q.rdSh g l j k;rcases j with j|rfl;(.exact(h.rd g j l k).app λop c b d _ _=>(f op c b d).elim);.exactλi a o e L=>fork_knows C w G hk<|h.mine l s3 s1 s2 (λs m n=>q.ownRd s _ l (Z m) (ai rfl) n k) i a (old o) e L
 . (have e:t++#[x,y]=(t++#[x])++#[y]:=by grind);rw[e];refine noRace_append (g:=g0) (noRace_append (g:=0) (h.nr r) (λop c=>by grind) λi a _ op c b d _=>(f op (by grind) b d).elim) (λop c=>by grind) λi a _ op c b d _=>(f op (by grind) b d).elim
def Tl.begin{b:Loc->Prop}(h:Past b v t)(k:∀i a,touchAt t i=K a->¬Sh a.loc):Tl Sh b (λ_=>False) Own Rd t:=by
 refine⟨λi op x hi j hs=>absurd hs<|k i x<|by rw[touchAt_of hi];exact j,λ_ g=>g.elim,λ_ g=>g.elim,λl c hs f _=>?_,λl c hs f _=>?_,λi a d c f=>(h.known i a d c).imp id (·.2),h.clean⟩;.exactλi a d e=>(h.known i a d<|e▸c).resolve_right λx=>f (e▸x.1)
 .exactλi a d e _=>(h.known i a d<|e▸c).resolve_right λx=>f (e▸x.1)
end
structure Kn(Old:Loc->Prop)(jB:Nat->Prop)(t:ar):Prop where
 known:∀i a g,touchAt t i=some a->a.loc.isMemory=true->t.g? i=some g->jB g\/Knows t 0 i\/(Old a.loc/\a.kind=.atomic)
 over:∀i g,t.g? i=some g->g≠0->t.counts i->jB g\/∃j,t.g? j=some 0/\bE t i j
structure sY(Sh:Loc->Prop)(a:an)(t:ar)(k r:Nat):Prop extends RelBy a t k r where
 pj:∀i x,r<i->t.g? i=some k->touchAt t i=some x->Sh x.loc
noncomputable section
variable{Sh Old:Loc->Prop}{jB:Nat->Prop}{t u:ar}
def zx{t:ar}{op:bh}(h:t[v]?=K op):t.g? v=K op.g:=by simp[Trace.g?,h]
def Kn.begin{b:Loc->Prop}(h:Past b v t):Kn b (λ_=>False) t:=⟨λi a g j c _=>ai<|h.known i a j c,λi g f d e=>ai<|h.over i g f d e⟩
def Kn.mono{b:Nat->Prop}(h:Kn Old jB t)(d:∀g,jB g->b g):Kn Old b t:=⟨λi a g j f c=>(h.known i a g j f c).imp (d g) id,λi g c k e=>(h.over i g c k e).imp (d g) id⟩
def Kn.app(h:Kn Old jB t)(D:∀op∈u,op.g=0\/jB op.g\/op.act.touch?=Q):Kn Old jB<|t++u:=by
 refine⟨λi a g y s l=>?_,λi g l w v=>?_⟩;.obtain⟨x,b,m⟩:=touch_of y;rcases getElem?_append_cases b with⟨hi,k⟩|⟨_,f⟩;(.exact(h.known i a g (by rw[touchAt_of k];exact m) s<|by rw[<-g?_old hi];exact l).imp id (Or.imp (·.app u) id));. (have e:g=x.g:=by have:=zx b;grind);rcases D x f with p|p|p;(.have:=knows_own b;grind);(.grind);grind
 .obtain⟨x,b,n⟩:=v;obtain⟨op,c,E⟩:=touch_of b;rcases getElem?_append_cases c with⟨hi,o⟩|⟨_,q⟩;(.refine(h.over i g (by rw[<-g?_old hi];exact l) w<|(counts_old hi).1 ⟨x,b,n⟩).imp id λ⟨j,r,C⟩=>?_;(have d:j<t.size:=by unfold Trace.g? at r;grind);exact⟨j,by rw[g?_old d];exact r,hb_app u C⟩);. (have e:g=op.g:=by have:=zx c;grind);grind
def sY.app{a:an}{g r:Nat}(h:sY Sh a t g r)(n:∀op∈u,op.g=g->∀x,op.act.touch?=K x->Sh x.loc)(l:∀i,t.size<=i->(t++u).g? i=K g->¬(t++u).counts i):sY Sh a (t++u) g r:=by
 refine⟨h.toRelBy.app l,λi x hi m k=>?_⟩;obtain⟨op,c,d⟩:=touch_of k;rcases getElem?_append_cases c with⟨f,b⟩|⟨_,j⟩;.exact h.pj i x hi (by rw[<-g?_old f];exact m)<|by rw[touchAt_of b];exact d
 . (have e:g=op.g:=by have:=zx c;grind);grind
def acm{a:an}{q:Nat}(hk:Kn Old jB t)(U:∀g,jB g->g≠0)(all:∀g,jB g->∃r,sY Sh a t g r/\r<q)(N:NoRelease a t)(T:t.act? q=K (.mark<|.acquire a))(S:t.g? q=K 0)(G:t.heard q)(nr:∀m,¬Race m t)(hd:aI t 0=0)(P:∀op∈t,op.act.low v):Past (λl=>Old l\/Sh l) v t:=by
 have n:∀{g r:Nat},sY Sh a t g r->r<q->bE t r q:=λd b=>.single<|ai ⟨.marked b (ai d.act) T λk _ _=>N k,d.heard,G⟩;have upto:∀{g r i:Nat},sY Sh a t g r->r<q->t.g? i=K g->i<=r->bE t i q:=by intro g r i d b e j;rcases bQ i r with c|R;(.exact .trans (.single<|Z ⟨c,g,e,d.g⟩)<|n d b);grind
 have y:∃o,t[q]?=K o/\o.g=0:=by unfold Trace.g? at S;grind
 refine⟨nr,λi x p C=>?_,λi g e E D=>?_,hd,P⟩;.obtain⟨op,f,J⟩:=touch_of p;rcases hk.known i x op.g p C (zx f)with h|h|h;(.obtain⟨r,d,b⟩:=all _ h;by_cases j:i<=r;(.obtain⟨o,L,w⟩:=y;exact Z ⟨q,o,L,w,ai<|upto d b (zx f) j⟩);. (have c:r<i:=by omega);refine ai ⟨ai<|d.pj i x c (zx f) p,?_⟩;refine bR λs=>d.after i c (zx f) ⟨x,p,C,Z s⟩);(.exact Z h);grind
 .rcases hk.over i g e E D with h|h;(.obtain⟨r,d,b⟩:=all _ h;have j:=Nat.le_of_not_lt λc=>d.after i c e D;grind);.exact h
end
end
noncomputable section
open Go.Conc Go.ConcN
variable{ok ok2:iO}{ρ ρ1 ρ2:iI}{P:B}
def sr(D:List aV)(k:bu):List V->Prop|[]=>False|[f]=>f.defers=D/\f.kind=k|_::f::l=>sr D k (f::l)
def sr.top{D:List aV}{k:bu}{f a:V}{l:List V}(h:sr D k<|f::l)(hd:a.defers=f.defers)(hk:a.kind=f.kind):sr D k<|a::l:=by cases l with|nil=>exact⟨hd.trans h.1,hk.trans h.2⟩|cons g l=>exact h
def FC(f:V)(v:W):(f.finish v).defers=f.defers/\(f.finish v).kind=f.kind:=by unfold Frame.finish;grind
def Yj{D:List aV}{p:bu}{l:List V}{w s:H}(e:sr D p l)(d:(own P l).runT P w #[]=(.ok o s,N)):sr D p o:=by cases l with|nil=>cases d|cons fr q=>obtain⟨fn,tmps,todo,defers,mode,kind,round⟩:=fr;(have jr:∀{k:List Item}{m:FrameMode},(Sem.pure<|⟨fn,tmps,k,defers,m,kind,round⟩::q).runT P w #[]=(.ok o s,N)->sr D p o:=by intro k m h;cases h;exact e.top rfl rfl);(have fin:∀{v:W}{C:H}{j:Array ak},(Sem.pure<|Frame.finish ⟨fn,tmps,todo,defers,mode,kind,round⟩ v::q).runT P C j=(.ok o s,N)->sr D p o:=by intro v C j h;cases h;exact e.top (FC _ _).1 (FC _ _).2);unfold own at d;simp only at d;cases mode with|panicking c=>cases d|returning=>(cases q with|nil=>cases d|cons c q=>cases R:P.funcs[fn]? with|none=>simp_all|some f=>rw[R]at d;simp only at d;rw[oA]at d;cases G:(results f tmps).runT P w #[]with|mk r t=>rw[G]at d;cases r with|halt x w1=>cases d|ok v w1=>cases d;exact sr.top e (FC _ _).1 (FC _ _).2)|run=>cases todo with|nil=>exact jr d|cons it k=>cases it with|code c=>(cases c with|skip=>exact jr d|ret=>exact jr d|seq a b=>exact jr d|block id b=>exact jr d|loop b=>exact jr d|cond c x y=>simp only at d;split at d;(.exact jr d);.cases d|exit id=>simp only at d;split at d;(.exact jr d);.cases d|region id ops g=>simp only at d;(cases g with|false=>exact jr d|true=>simp only[bI,bl,if_false]at d;rw[oA]at d;simp only[choose,Sem.runT,Question.forced,bl,if_false]at d;cases d;exact e.top rfl rfl)|_=>cases d)|inBlock id=>exact jr d|inLoop b=>exact jr d|inRegion ops l=>(cases l with|nil=>exact jr d|cons i rest=>simp only at d;cases E:ops[i]? with|none=>rw[E]at d;exact fin d|some L=>rw[E]at d;simp only at d;split at d;(.rw[oA]at d;generalize(execOp _ L).runT P w #[]=J at d;obtain⟨r,t⟩:=J;cases r with|halt x w1=>cases d|ok n w1=>cases n with|value v=>exact fin d|skip=>exact fin d|enter f u=>cases d;exact e|_=>cases d);.exact fin d)|_=>cases d
def QC(y:Fits ok P)(U:mM ok P)(g:Bool)(base:List V){l la:List V}{wh w:H}(p:mH ok P ρ l la)(m:jz ok ρ wh w)(C:oV ok ρ)(hd:rj ok P l)(h:∀T d,∃E L N,(own P l).runT P (wh.re T d) #[]=(.ok E L,N))(d:Nat):∃ρ1 q w1 j fr X o a c e,la=fr::X/\(own P l).runT P (wh.re w.tape d) #[]=(.ok q w1,j)/\stepG P g (G fr<|X++base) (w.at d)=.go (G o<|a++base) c (seen P fr.fn e)/\mH ok P ρ1 q (o::a)/\qh ok ρ ρ1 (wh.re w.tape d) w1 (w.at d) c e/\∀D k,sr D k la->sr D k (o::a):=by
 obtain⟨q,w1,j,x⟩:=h w.tape d;have u:jz ok ρ (wh.re w.tape d)<|w.at d:=⟨m.inj,m.gs,m.zero,m.obj,m.out⟩;obtain⟨ρ1,b,c,e,r,J,S⟩:=Ad _ (esa:=#[]) (zX y U m.inj C p hd) u x λi hi=>rfl;simp only[bM]at r;obtain⟨fr,X,rfl⟩:∃fr X,la=fr::X:=by cases p with|one=>simp|cons=>simp
 have n:∃f,m7 ok P ρ f fr:=by cases p with|one h=>exact⟨_,h⟩|cons h=>exact⟨_,h⟩
 obtain⟨f0,v⟩:=n;have t:fr.mode=.returning->Plain fr:=by intro hm;cases p with|cons _ hp _=>exact hp|one _=>unfold own at r;simp_all
 obtain⟨o,a,rfl,s⟩:=EJ g base v.tA v.early t r;exact⟨ρ1,q,w1,j,fr,X,o,a,c,e,rfl,x,s,J,S,λD k R=>Yj R r⟩
noncomputable section
variable{wh w1 wh2 w wa1:H}{es:Array ak}
def IZ(D:qh ok ρ ρ1 wh w1 w wa1 es)(e:v<w.heap.size)(f:∀b,ρ b v->kC wh b):wa1.heap[v]?=w.heap[v]?:=by
 by_cases d:∃c,ρ c v;.obtain⟨c,a⟩:=d;exact(D.shut c<|f c a).2 v a
 .exact D.out v e λc a=>d ⟨c,a⟩
end
def ry:Loc->Nat->Prop|ax a,n=>a.block=n|aG r,n=>r=n|_,_=>False
def aao(ρ:iI)(wh:H)(l:Loc):Prop:=∃b a,ρ b a/\ry l a/\¬kC wh b
def afn(ρ:iI)(wh:H)(l:Loc):Prop:=∃b a,ρ b a/\ry l a/\kC wh b
def PI{l:Loc}{n:Nat}(h:ry l n):l.isMemory=M:=by cases l<;>first|rfl|exact h.elim
def Fw{l:Loc}{n:Nat}(h:ry l n)(b:ry l v):n=v:=by cases l with|cell a=>exact(show a.block=n from h).symm.trans b|obj r=>exact(show r=n from h).symm.trans b|_=>exact h.elim
def Kt{w1:H}{e:ak}(h:vn ρ w1 e){x:Touch}(d:(ay e).touch?=K x):x.kind=.plain/\(aao ρ w1 x.loc\/(afn ρ w1 x.loc/\x.write=ah)):=by obtain⟨j,wr,l⟩:=e;cases j with|cell a=>obtain⟨g,b,c,i⟩:=h;simp only at g c i;subst g;simp only[ay,az,aQ]at d;subst d;refine⟨rfl,?_⟩;by_cases hs:kC w1 b;(.exact ai ⟨⟨b,a.block,c,rfl,hs⟩,by grind⟩);.exact Z ⟨b,a.block,c,rfl,hs⟩|obj r=>obtain⟨g,b,c,i⟩:=h;simp only at g c i;subst g;(have e:ay ⟨aG r,wr,ah⟩=.access ⟨aG r,wr,ah⟩:=by cases wr<;>rfl);rw[e]at d;simp only[az,aQ]at d;subst d;refine⟨rfl,?_⟩;by_cases hs:kC w1 b;(.exact ai ⟨⟨b,r,c,rfl,hs⟩,by grind⟩);.exact Z ⟨b,r,c,rfl,hs⟩|mark m=>have k:=h;(cases m with|extern f=>simp[ay,az]at d|noRoom=>simp[ay,az]at d|_=>exact k.elim)|_=>exact h.elim
def adx{d Old:Loc->Prop}{jB:Nat->Prop}{Own c:Nat->Loc->Prop}{w1:H}(f:∀b a,ρ b a->∀l,ry l a->¬d l/\¬Old l)(k:∀g,jB g->∀b a l,ρ b a->ry l a->¬Own g l/\(¬kC w1 b->¬c g l)){e:ak}(h:vn ρ w1 e)(fn:aW)(pos:String):yX d Old jB Own c {g:=0,fn,pos,act:=ay e}:=by
 refine⟨rfl,λx j=>ai ?_⟩;obtain⟨_,i⟩:=Kt h j;have key:∃b a,ρ b a/\ry x.loc a/\(x.write=M->¬kC w1 b):=by rcases i with⟨b,a,p,q,r⟩|⟨⟨b,a,p,q,_⟩,r⟩;(.grind);grind
 grind
end
noncomputable section
open Go.Conc Go.ConcN
open Go.ConcR(KK wgBlock WgAt stA smA rd wr mk Payload DC0 Bk g_of_ofEvents)
structure Gh where
 ρ:iI
 l:List V
 wh:H
 bs:Nat
structure mh where
 ty:aX
 Wg:Nat
 C:Nat
 R:Nat
 KQ:aX
 PF:Nat
 val:W
 n0:Nat
 N0:Nat
 N1:Nat
 w1:H
 Still:Nat->Prop
 Old:Loc->Prop
 ok:iO
 base:List V
 defers:List aV
 kind:bu
 S:Nat->List V->H->Prop
 lo:Nat->Nat
 hi:Nat->Nat
 uI:Nat->Gh->(Nat->Option W)->Prop
noncomputable section
variable[aJ](J:mh)
def sA(w:H):Prop:=∃a:Array W,w.heap[J.R]?=K (ao a J.KQ)/\a.size=J.PF
def Iu(w:H):Prop:=w.heap[J.C]?=K (ao #[J.val] Payload.ety)
def rowOf(i:Nat)(w:H)(o:Nat):Option W:=if J.lo i<=o/\o<J.hi i then w.cell? ⟨J.R,o,Q⟩else Q
def Out(i:Nat)(E:Gh)(w:H):Prop:=J.uI i E<|rowOf J i w
structure RT(i:Nat)(w w₁:H):Prop where
 live:aD J.ty J.Wg w->aD J.ty J.Wg w₁
 var:w₁.heap[J.C]?=w.heap[J.C]?
 row:sA J w->sA J w₁
 cells:∀o,J.lo i<=o->o<J.hi i->w₁.cell? ⟨J.R,o,none⟩=w.cell? ⟨J.R,o,none⟩
structure DT(i:Nat)(w w':H)(es:Array ak):Prop where
 size:w'.heap.size=w.heap.size
 block:∀b,b≠J.R->w'.heap[b]?=w.heap[b]?
 row:sA J w->sA J w'
 cells:∀o,¬(J.lo i<=o/\o<J.hi i)->w'.cell? ⟨J.R,o,none⟩=w.cell? ⟨J.R,o,none⟩
 ev:∀e∈es,∃o wr,e=⟨ax ⟨J.R,o,none⟩,wr,false⟩/\J.lo i<=o/\o<J.hi i
 os:w'.os=w.os
 output:w'.output=w.output
end
noncomputable section
variable[aJ]{J:mh}{i:Nat}{w w₁ w₂:H}
def RT.refl(w:H):RT J i w w:=⟨id,rfl,id,λ_ _ _=>rfl⟩
def RT.trans(h:RT J i w w₁)(c:RT J i w₁ w₂):RT J i w w₂:=⟨c.live∘h.live,c.var.trans h.var,c.row∘h.row,λo a b=>(c.cells o a b).trans<|h.cells o a b⟩
def RT.at(w:H)(d:Nat):RT J i w<|w.at d:=⟨id,rfl,id,λ_ _ _=>rfl⟩
def RT.rw(h:RT J i w w₁):RW J.ty J.Wg J.C 1 0 0 w w₁:=⟨λb c=>absurd c<|by omega,h.live,λ⟨d,a,b⟩=>⟨d,h.var.trans a,b⟩,cell_of_block h.var 0⟩
def afW(h:∀o,J.lo i<=o->o<J.hi i->w₁.cell? ⟨J.R,o,Q⟩=w.cell? ⟨J.R,o,Q⟩):rowOf J i w₁=rowOf J i w:=by funext o;unfold rowOf;grind
def RT.out(h:RT J i w w₁){E:Gh}(a:Out J i E w):Out J i E w₁:=by unfold Out at*;rw[afW h.cells];exact a
end
inductive WS [aJ](P:B)(J:mh)(i:Nat)(E:Gh):Nat->Nat->Nat->Nat->Y->H->Prop|pre{m:Nat}{g:Y}{w:H}(hs:Safe J.ok P (J.S i) E.l E.wh)(h:aE P false (RW J.ty J.Wg J.C 1 0 0) DC0 (λg _=>∃f X,g=G f (X++J.base)/\mH J.ok P E.ρ E.l (f::X)/\sr J.defers J.kind (f::X)) m g w):WS P J i E 2 7 m 0 g w|gh{f:V}{X:List V}{w:H}(hs:Safe J.ok P (J.S i) E.l E.wh)(h:mH J.ok P E.ρ E.l<|f::X)(hb:sr J.defers J.kind<|f::X):WS P J i E 1 7 0 0 (G f<|X++J.base) w|tail{m:Nat}{g:Y}{w:H}(h:aE P false (RT J i) (DT J i) (λg w=>AtR0 P J.ty J.Wg J.C 1 0 1 J.val g w/\Out J i E w) m g w):WS P J i E 0 7 m 0 g w|xq{s m d:Nat}{g:Y}{w:H}(hs:s<=6)(h:WSit P J.ty J.Wg J.C 1 (λ_ _=>False) (λ_ _=>False) 0 1 J.val s m d g w):WS P J i E 0 s m d g w
noncomputable section
variable[aJ]{P:B}{J:mh}{i:Nat}{E:Gh}{u s m d:Nat}{g:Y}{w w₁:H}
def WS.rely(h:WS P J i E u s m d g w)(c:RT J i w w₁):WS P J i E u s m d g w₁:=by cases h with|pre hs h=>exact .pre hs<|Goes.rely (λ_ _ _ a b=>a.trans b) h c.rw|gh hs h e=>exact .gh hs h e|tail h=>exact .tail<|Goes.rely (λ_ _ _ a b=>a.trans b) h c|xq hs h=>exact .xq hs<|h.rely c.rw
def WS.status(h:WS P J i E u s m d g w):g.status=aN\/g.status=.finished:=by cases h with|pre hs h=>exact Z<|Goes.running (λg w⟨f,X,e,_⟩=>by rw[e];rfl) w (RW.refl w) h|gh hs h a=>exact Z rfl|tail h=>exact Z<|Goes.running (λg w x=>x.1.1) w (RT.refl w) h|xq hs h=>exact h.status
def WS.woken(h:WS P J i E u s m d g w)(a b:Y)(c:H):woken P a b c g=g:=by
 unfold Go.Conc.woken;split;.exact again_running _ h.status
 .rfl
end
def yF(J:mh)(j:Nat)(E:Nat->Gh)(g:Nat)(l:Loc):Prop:=∃i,i<j/\g=J.n0+i/\((∃b a,(E i).ρ b a/\(E i).bs<=a/\ry l a)\/∃o,l=ax ⟨J.R,o,Q⟩/\J.lo i<=o/\o<J.hi i)
def yc(J:mh)(j:Nat)(E:Nat->Gh)(g:Nat)(l:Loc):Prop:=∃i,i<j/\g=J.n0+i/\∃b a,(E i).ρ b a/\a<(E i).bs/\ry l a
def jB(J:mh)(j g:Nat):Prop:=J.n0<=g/\g<J.n0+j
structure Stat(J:mh):Prop where
 rw:J.R≠J.Wg
 cw:J.C≠J.Wg
 rc:J.R≠J.C
 apart:∀i i' o,J.lo i<=o->o<J.hi i->J.lo i'<=o->o<J.hi i'->i=i'
 Gu:∀a:an,a.block=J.Wg->¬J.Old (ax a)
 Ob:∀l,ry l J.R->¬J.Old l
 low:∀l,J.Old l->l.low J.N0
 pos:0<J.n0
structure Mem [aJ](ok:iO)(J:mh)(j:Nat)(E:Nat->Gh)(ρ0:iI)(wh0 w:H):Prop where
 ln:jz ok ρ0 wh0 w
 uW:oV ok ρ0
 rel:∀i,i<j->jz J.ok (E i).ρ (E i).wh w
 kV:∀i,i<j->oV J.ok (E i).ρ
 vg:∀i,i<j->∀b b',(E i).ρ b b'->(E i).bs<=b'->(∀i',i'<j->i'≠i->∀c,¬(E i').ρ c b')/\∀c,¬ρ0 c b'
 wm:∀i,i<j->∀b b',(E i).ρ b b'->b'<(E i).bs->kC (E i).wh b
 tg:∀i,i<j->∀b c b',ρ0 b b'->(E i).ρ c b'->kC wh0 b
 tG:∀b b',ρ0 b b'->b'<ok.old.heap.size->kC wh0 b
 pQ:∀i,i<j->∀b b',(E i).ρ b b'->b'≠J.Wg/\b'≠J.R/\(b'=J.C->b'<(E i).bs)/\∀l,ry l b'->¬J.Old l
 qK:∀b b',ρ0 b b'->b'≠J.Wg/\b'≠J.R/\(b'=J.C->kC wh0 b)/\∀l,ry l b'->¬J.Old l
 sO:∀i,i<j->(E i).bs<=w.heap.size/\ok.old.heap.size<=(E i).bs
 lt:J.Wg<w.heap.size/\J.C<w.heap.size/\J.R<w.heap.size/\J.N0<=w.heap.size/\ok.old.heap.size<=J.Wg/\ok.old.heap.size<=J.R
 var:Iu J w
 row:sA J w
 iR:∀b',b'<ok.old.heap.size->w.heap[b']?=ok.old.heap[b']?
 still:∀b',J.Still b'->w.heap[b']?=J.w1.heap[b']?/\b'≠J.Wg/\b'≠J.R/\b'<J.N1/\∀b,ρ0 b b'->kC wh0 b
 n1:J.N1<=w.heap.size/\∀i,i<j->J.N1<=(E i).bs
noncomputable section
variable[aJ]{ok:iO}{J:mh}{j:Nat}{E:Nat->Gh}{ρ0:iI}{wh0 w:H}
def Mem.Hi(X:Stat J)(h:Mem ok J j E ρ0 wh0 w):Fo (ShN J.Wg) J.Old (jB J j) (yF J j E)<|yc J j E:=by
 have same:∀{i k b:Nat}{f c:Nat},i<j->k<j->(E i).ρ b f->(E i).bs<=f->(E k).ρ c f->k=i:=by intro i k b f c hi t G L hc;exact bR λT=>(h.vg i hi b f G L).1 k t T c hc
 have aa:∀{i b o:Nat},i<j->¬(E i).ρ b J.R:=λhi G=>(h.pQ _ hi _ _ G).2.1 rfl;refine⟨?_,?_,?_,?_,?_,?_⟩;.rintro g g' l _ _⟨i,hi,rfl,v⟩⟨k,t,rfl,h2⟩;rcases v with⟨b,x,p,q,r⟩|⟨o,rfl,p,q⟩<;>rcases h2 with⟨c,S,p',D,y⟩|⟨o',e,p',D⟩;(.obtain rfl:=Fw r y;grind);(.subst e;obtain rfl:J.R=x:=r;simp_all);(.obtain rfl:J.R=S:=y;simp_all);.simp only[Loc.cell.injEq,Addr.mk.injEq,true_and,and_true]at e;subst e;rw[X.apart i k o p q p' D]
 .rintro g g' l _ _⟨i,hi,rfl,v⟩⟨k,t,rfl,c,S,p',D,y⟩;rcases v with⟨b,x,p,q,r⟩|⟨o,rfl,p,q⟩;(.obtain rfl:=Fw r y;grind);.obtain rfl:J.R=S:=y;simp_all
 .rintro g l _⟨i,hi,rfl,v⟩;rcases v with⟨b,x,p,q,r⟩|⟨o,rfl,p,q⟩;(.obtain⟨C,a2,a3,N⟩:=h.pQ i hi _ _ p;refine⟨?_,N l r,PI r⟩;rintro⟨a,rfl,n⟩;exact C<|(show a.block=x from r).symm.trans n);.refine⟨?_,λU=>?_,rfl⟩;(.rintro⟨a,e,n⟩;simp only[Loc.cell.injEq]at e;subst e;exact X.rw n);.exact X.Ob (ax ⟨J.R,o,Q⟩) rfl U
 .rintro g l _⟨i,hi,rfl,b,x,p,q,r⟩;obtain⟨C,a2,a3,N⟩:=h.pQ i hi _ _ p;refine⟨?_,N l r,PI r⟩;rintro⟨a,rfl,n⟩;exact C<|(show a.block=x from r).symm.trans n
 .rintro l U⟨a,rfl,n⟩;exact X.Gu a n U
 .rintro g⟨v,_⟩;have:=X.pos;omega
def Tl.congr{r Old:Loc->Prop}{jB:Nat->Prop}{Own p f k:Nat->Loc->Prop}{t:ar}(h:Tl r Old jB Own p t)(n:∀g l,jB g->(f g l↔Own g l))(q:∀g l,jB g->(k g l↔p g l)):Tl r Old jB f k t:=⟨h.quiet,λg e l o=>h.own g e l<|(n g l e).1 o,λg e l o=>h.rd g e l<|(q g l e).1 o,λl a b c d=>h.free l a b c λg e=>⟨λx=>(d g e).1<|(n g l e).2 x,λx=>(d g e).2<|(q g l e).2 x⟩,λl a b c d=>h.mine l a b c λg e x=>d g e ((n g l e).2 x),h.old,h.nr⟩
def O9{op:bh}(h:op.act.low v){x:Touch}(a:op.act.touch?=K x):x.loc.low v:=by obtain⟨g,fn,pos,b⟩:=op;simp only at h a;cases b with|access e=>simp only[az,aQ]at a;subst a;exact h|mark m=>cases m<;>simp only[az,aQ,reduceCtorEq]at a<;>(subst a;exact h)|_=>simp[az]at a
structure yb(J:mh)(i:Nat)(e E':Gh)(w w':H):Prop where
 bs:E'.bs=e.bs
 rel:jz J.ok E'.ρ E'.wh w'
 le:e.ρ.le E'.ρ
 new:∀b b',E'.ρ b b'->e.ρ b b'\/w.heap.size<=b'
 shut:∀b b',E'.ρ b b'->b'<e.bs->kC E'.wh b
 size:w.heap.size<=w'.heap.size
 block:∀b',b'<w.heap.size->(∀c,e.ρ c b'->b'<e.bs)->b'≠J.Wg->b'≠J.R->w'.heap[b']?=w.heap[b']?
def yV{ok:iO}{ρ:iI}{wh w w':H}(h:jz ok ρ wh w)(hs:w.heap.size<=w'.heap.size)(f:∀b a,ρ b a->w'.heap[a]?=w.heap[a]?)(c:w'.os=w.os/\w'.output=w.output):jz ok ρ wh w':=⟨h.inj,⟨h.gs.1,aU h.gs.2 hs⟩,h.zero,λ{b a}x=>by obtain⟨o,e,e1,e2,e3⟩:=h.obj x;grind,⟨c.1.trans h.out.1,c.2.trans h.out.2⟩⟩
def Hm{ok:iO}{ρ c:iI}{wh b w a:H}(h:jz ok ρ wh w)(e:jz ok c b a):a.os=w.os/\a.output=w.output:=⟨e.out.1.trans h.out.1.symm,e.out.2.trans h.out.2.symm⟩
def Mem.stepW(X:Stat J)(h:Mem ok J j E ρ0 wh0 w){i:Nat}(hi:i<j){E':Gh}{L:H}(D:yb J i (E i) E' w L)(hv:L.heap[J.C]?=w.heap[J.C]?)(hr:sA J w->sA J L):Mem ok J j (upd E i E') ρ0 wh0 L:=by
 have aa:∀{n b k:Nat},n<j->n≠i->(E n).ρ b k->L.heap[k]?=w.heap[k]?:=by intro n b k f t o;obtain⟨U,T,_,_⟩:=h.pQ n f b k o;refine D.block k ((h.rel n f).lt o).2 (λc p=>?_) U T;exact bT λv=>(h.vg i hi c k p v).1 n f t b o
 have R:∀{b k:Nat},ρ0 b k->L.heap[k]?=w.heap[k]?:=by intro b k o;obtain⟨U,T,_,_⟩:=h.qK b k o;refine D.block k (h.ln.lt o).2 (λc p=>?_) U T;exact bT λv=>(h.vg i hi c k p v).2 b o
 have y:∀{b k:Nat},w.heap.size<=k->(∀n,n<j->∀c,¬(E n).ρ c k)/\∀c,¬ρ0 c k:=by intro b k o;exact⟨λn f c p=>by have:=((h.rel n f).lt p).2;omega,λc p=>by have:=(h.ln.lt p).2;omega⟩
 have ac:=(h.sO i hi).1;refine⟨yV h.ln D.size (λb k o=>R o)<|Hm (h.rel i hi) D.rel,h.uW,λn f=>?_,λn f=>?_,λn f b k o q=>?_,λn f b k o q=>?_,λn f b c k o p=>?_,h.tG,λn f b k o=>?_,h.qK,λn f=>?_,?_,hv.trans h.var,hr h.row,λk G=>?_,λk G=>?_,?_⟩;.by_cases e:n=i;(.subst e;rw[upd_same];exact D.rel);.rw[upd_ne E _ e];exact yV (h.rel n f) D.size (λb k o=>aa f e o)<|Hm (h.rel i hi) D.rel
 .by_cases e:n=i;(.subst e;rw[upd_same];exact(h.kV n f).mono D.le);.rw[upd_ne E _ e];exact h.kV n f
 .by_cases e:n=i;(.subst e;rw[upd_same]at o q;rw[D.bs]at q;rcases D.new b k o with o|o;(.obtain⟨p1,N⟩:=h.vg n f b k o q;exact⟨λi2 S t c p=>by rw[upd_ne E _ t]at p;grind,N⟩);.obtain⟨p1,N⟩:=y (b:=b) o;exact⟨λi2 S t c p=>by rw[upd_ne E _ t]at p;grind,N⟩);.rw[upd_ne E _ e]at o q;obtain⟨p1,N⟩:=h.vg n f b k o q;refine⟨λi2 S t c p=>?_,N⟩;by_cases e2:i2=i;(.subst e2;rw[upd_same]at p;rcases D.new c k p with p|p;(.grind);simp_all);.rw[upd_ne E _ e2]at p;grind
 .by_cases e:n=i;(.subst e;rw[upd_same]at o q⊢;rw[D.bs]at q;exact D.shut b k o q);.rw[upd_ne E _ e]at o q⊢;exact h.wm n f b k o q
 .by_cases e:n=i;(.subst e;rw[upd_same]at p;rcases D.new c k p with p|p;(.exact h.tg n f b c k o p);simp_all);.rw[upd_ne E _ e]at p;exact h.tg n f b c k o p
 .by_cases e:n=i;(.subst e;rw[upd_same]at o⊢;rcases D.new b k o with o|o;(.obtain⟨U,T,a3,a4⟩:=h.pQ n f b k o;exact⟨U,T,λx=>by rw[D.bs];exact a3 x,a4⟩);.obtain⟨l1,l2,l3,l4,_⟩:=h.lt;refine⟨by omega,by omega,λx=>by omega,λl hl ho=>?_⟩;have:=X.low l ho;cases l with|cell a=>simp only[aH]at this;have e:a.block=k:=hl;omega|obj r=>simp only[aH]at this;have e:r=k:=hl;omega|_=>exact hl.elim);.rw[upd_ne E _ e]at o⊢;exact h.pQ n f b k o
 .by_cases e:n=i;(.subst e;rw[upd_same,D.bs];exact⟨aU (h.sO n f).1 D.size,(h.sO n f).2⟩);.rw[upd_ne E _ e];exact⟨aU (h.sO n f).1 D.size,(h.sO n f).2⟩
 .obtain⟨l1,l2,l3,l4,l5,l6⟩:=h.lt;have:=D.size;omega
 .obtain⟨l1,l2,l3,l4,l5,l6⟩:=h.lt;refine(D.block k (by omega) (λc p=>?_) (by omega)<|by omega).trans<|h.iR k G;have:=(h.sO i hi).2;omega
 .obtain⟨s1,s2,s3,s4,s5⟩:=h.still k G;have n1:=h.n1.1;have n2:=h.n1.2 i hi;exact⟨(D.block k (by omega) (λc p=>by omega) s2 s3).trans s1,s2,s3,s4,s5⟩
 .refine⟨aU h.n1.1 D.size,λn f=>?_⟩;by_cases e:n=i;(.subst e;rw[upd_same,D.bs];exact h.n1.2 n f);.rw[upd_ne E _ e];exact h.n1.2 n f
structure rH(ok:iO)(J:mh)(ρ0 ρ0':iI)(wh0 wh0' w w':H):Prop where
 rel:jz ok ρ0' wh0' w'
 le:ρ0.le ρ0'
 new:∀b b',ρ0' b b'->ρ0 b b'\/w.heap.size<=b'
 shut:∀b,kC wh0 b->kC wh0' b
 size:w.heap.size<=w'.heap.size
 block:∀b',b'<w.heap.size->(∀c,ρ0 c b'->kC wh0 c)->b'≠J.Wg->w'.heap[b']?=w.heap[b']?
def Mem.step0(X:Stat J)(h:Mem ok J j E ρ0 wh0 w){q:iI}{p L:H}(D:rH ok J ρ0 q wh0 p w L):Mem ok J j E q p L:=by
 obtain⟨l1,U,l3,l4,l5,l6⟩:=h.lt;have y:∀{i b f:Nat},i<j->(E i).ρ b f->L.heap[f]?=w.heap[f]?:=by intro i b f hi k;obtain⟨N,S,_,_⟩:=h.pQ i hi b f k;exact D.block f ((h.rel i hi).lt k).2 (λc n=>h.tg i hi c b f n k) N
 have hR:=D.block J.R l3 (λc n=>absurd rfl (h.qK c _ n).2.1) X.rw;have hC:=D.block J.C U (λc n=>(h.qK c _ n).2.2.1 rfl) X.cw;have aa:=D.size;refine⟨D.rel,h.uW.mono D.le,λi hi=>yV (h.rel i hi) D.size (λb f k=>y hi k)<|Hm h.ln D.rel,h.kV,λi hi b f k v=>?_,h.wm,λi hi b c f k n=>?_,λb f k t=>?_,h.pQ,λb f k=>?_,λi hi=>⟨aU (h.sO i hi).1 D.size,(h.sO i hi).2⟩,⟨by omega,by omega,by omega,by omega,l5,l6⟩,hC.trans h.var,?_,λf o=>?_,λf o=>?_,⟨aU h.n1.1 D.size,h.n1.2⟩⟩;.obtain⟨p1,p2⟩:=h.vg i hi b f k v;refine⟨p1,λc n=>?_⟩;rcases D.new c f n with n|n;(.exact p2 c n);.have:=((h.rel i hi).lt k).2;omega
 .rcases D.new b f k with k|k;(.exact D.shut b<|h.tg i hi b c f k n);.have:=((h.rel i hi).lt n).2;omega
 .rcases D.new b f k with k|k;(.exact D.shut b<|h.tG b f k t);.omega
 .rcases D.new b f k with k|k;(.obtain⟨N,S,a3,a4⟩:=h.qK b f k;exact⟨N,S,λx=>D.shut b<|a3 x,a4⟩);.refine⟨by omega,by omega,λx=>by omega,λl G ho=>?_⟩;have:=X.low l ho;cases l with|cell a=>simp only[aH]at this;have e:a.block=f:=G;omega|obj r=>simp only[aH]at this;have e:r=f:=G;omega|_=>exact G.elim
 .obtain⟨cs,e1,e2⟩:=h.row;exact⟨cs,hR.trans e1,e2⟩
 .exact(D.block f (by omega) (λc n=>h.tG c f n o)<|by omega).trans<|h.iR f o
 .obtain⟨s1,s2,s3,s4,T⟩:=h.still f o;have n1:=h.n1.1;refine⟨(D.block f (by omega) T s2).trans s1,s2,s3,s4,λb k=>?_⟩;rcases D.new b f k with k|k;(.exact D.shut b<|T b k);.omega
end
end
noncomputable section
open Go.Conc Go.ConcN
open Go.ConcR(KK wgBlock WgAt stA smA rd wr mk Payload DC0 Bk g_of_ofEvents)
variable[aJ]
structure Cy(ok:iO)(P:B)(J:mh)(j:Nat)(E:Nat->Gh)(D:Nat->WD)(U q:Nat->Nat)(ρ0:iI)(wh0:H)(gs:Array Y)(w:H)(t:ar)(d0:Nat):Prop where
 size:gs.size=J.n0+j
 yR:∀k g,0<k->k<J.n0->gs[k]?=some g->QuitsD P (q k) (aI t k) g
 above:∀k,J.n0+j<=k->aI t k=0
 wk:∀i,i<j->∃g,gs[J.n0+i]?=some g/\WS P J i (E i) (U i) (D i).stage (D i).fuel (D i).deaf g w
 mem:Mem ok J j E ρ0 wh0 w
 tl:Tl (ShN J.Wg) J.Old (jB J j) (yF J j E) (yc J j E) t
 kn:Kn J.Old (jB J j) t
 norel:NoRelease (stA J.Wg) t
 deaf0:aI t 0=d0
 deafW:∀i,i<j->aI t (J.n0+i)=(D i).deaf
 rel:∀i,i<j->(D i).stage<=6->∃r,sY (ShN J.Wg) (stA J.Wg) t (J.n0+i) r
 out:∀i,i<j->(D i).stage<=6->Out J i (E i) w
 low:∀op∈t,op.act.low w.heap.size
noncomputable section
variable{ok:iO}{P:B}{J:mh}{j:Nat}{E:Nat->Gh}{D:Nat->WD}{U q:Nat->Nat}{ρ0:iI}{wh0 w w':H}{gs:Array Y}{t:ar}{d0:Nat}
def Mem.at(h:Mem ok J j E ρ0 wh0 w)(d:Nat):Mem ok J j E ρ0 wh0<|w.at d:=⟨⟨h.ln.inj,h.ln.gs,h.ln.zero,h.ln.obj,h.ln.out⟩,h.uW,λi hi=>let r:=h.rel i hi;⟨r.inj,r.gs,r.zero,r.obj,r.out⟩,h.kV,h.vg,h.wm,h.tg,h.tG,h.pQ,h.qK,h.sO,h.lt,h.var,h.row,h.iR,h.still,h.n1⟩
def Cy.at(h:Cy ok P J j E D U q ρ0 wh0 gs w t d0)(d:Nat):Cy ok P J j E D U q ρ0 wh0 gs (w.at d) t d0:={h with wk:=λi hi=>let⟨g,a,hs⟩:=h.wk i hi;⟨g,a,hs.rely<|RT.at w d⟩,mem:=h.mem.at d,out:=h.out,low:=h.low}
def W0(X:Stat J){g:Nat}(h:jB J j g):g≠0:=by have:=X.pos;have:=h.1;omega
def sY.appOther{d:Loc->Prop}{a:an}{t u:ar}{k r g:Nat}(h:sY d a t k r)(f:∀op∈u,op.g=g)(m:g≠k):sY d a (t++u) k r:=h.app (λop c e=>absurd ((f op c).symm.trans e) m) λi hi b=>by obtain⟨op,n,l⟩:=bg.1 b;grind
def JP(h:∀op∈t,op.act.low w.heap.size)(hs:w.heap.size<=w'.heap.size){g:Nat}{fn:aW}{pos:String}(c:∀e∈N,(ay e).low w'.heap.size):∀op∈t++aA g fn pos N,op.act.low w'.heap.size:=by
 intro op a;rcases Array.mem_append.1 a with a|a;.exact MemAct.low_mono hs<|h op a
 .obtain⟨e,b,rfl⟩:=aM a;exact c e b
def Cy.stepW(X:Stat J)(h:Cy ok P J j E D U q ρ0 wh0 gs w t d0)(hi:v<j){g g':Y}{T:Gh}{m' S:Nat}{fn:aW}{pos:String}(s:yb J v (E v) T w w')(hv:w'.heap[J.C]?=w.heap[J.C]?)(ah:sA J w->sA J w')(aa:∀d,d<j->d≠v->RT J d w w')(aq:WS P J v T x y m' S g' w')(ap:∀op∈aA (J.n0+v) fn pos N,EL (ShN J.Wg) (yF J j<|upd E v T) (yc J j<|upd E v T) (J.n0+v) op)(an:∀e∈N,e.loc≠.mark (.release<|stA J.Wg))(R:deafBehind (D v).deaf N=S)(hrel:y<=6->∃r,sY (ShN J.Wg) (stA J.Wg) (t++aA (J.n0+v) fn pos N) (J.n0+v) r)(ae:y<=6->Out J v T w')(ac:∀e∈N,(ay e).low w'.heap.size):Cy ok P J j (upd E v T) (upd D v ⟨y,m',S⟩) (upd U v x) q ρ0 wh0 ((gs.map<|woken P g g' w').setIfInBounds (J.n0+v) g') w' (t++aA (J.n0+v) fn pos N) d0:=by
 have ar:=X.pos;have u:jB J j<|J.n0+v:=⟨by omega,by omega⟩;have G:=h.mem.stepW X hi s hv ah;have ax:=(h.mem.sO v hi).1;refine⟨by simp[h.size],λk av hk ao n=>?_,λk hk=>?_,λd c=>?_,G,?_,?_,h.norel.app<|norel_of an,?_,λd c=>?_,λd c m=>?_,λd c m=>?_,JP h.low s.size ac⟩;.rw[get_map_set _ _ _ _<|by omega]at n;obtain⟨aw,hy,rfl⟩:=bg.1 n;have hq:=h.yR k aw hk ao hy;rw[woken_quitsD hq,au t (by omega) _ g_of_ofEvents];exact hq
 .rw[au t (by omega) _ g_of_ofEvents];exact h.above k hk
 .by_cases e:d=v;(.subst e;exact⟨g',get_map_set_same _ _ _<|by rw[h.size];omega,by rw[upd_same,upd_same,upd_same];exact aq⟩);.obtain⟨av,n,aj⟩:=h.wk d c;refine⟨av,by rw[get_map_set _ _ _ _<|by omega,n,bF,aj.woken],?_⟩;rw[upd_ne D _ e,upd_ne E _ e,upd_ne U _ e];exact aj.rely<|aa d c e
 .refine Tl.appW (G.Hi X) ?_ u ap;have hg:=Tl.grow h.tl (g0:=J.n0+v) (New:=λl=>∃b f,T.ρ b f/\w.heap.size<=f/\ry l f) (λk a ha⟨b,f,_,hb,hl⟩=>by obtain⟨op,L,am⟩:=touch_of ha;have:=O9 (h.low op<|bU L) am;cases hloc:a.loc with|cell ad=>rw[hloc]at this hl;simp only[aH]at this;have e:ad.block=f:=hl;omega|obj r=>rw[hloc]at this hl;simp only[aH]at this;have e:r=f:=hl;omega|_=>rw[hloc]at hl;exact hl.elim);refine hg.congr (λg l al=>⟨?_,?_⟩) λg l al=>⟨?_,?_⟩;(.rintro⟨d,c,rfl,n⟩;by_cases e:d=v;(.subst e;simp only[upd_same]at n;rcases n with⟨b,f,p,o,r⟩|n;(.rcases s.new b f p with p|p;(.rw[s.bs]at o;exact Z ⟨d,c,rfl,Z ⟨b,f,p,o,r⟩⟩);grind);.exact Z ⟨d,c,rfl,ai n⟩);.simp only[upd_ne E _ e]at n;exact Z ⟨d,c,rfl,n⟩);(.rintro(⟨d,c,rfl,n⟩|⟨rfl,b,f,p,o,r⟩);(.by_cases e:d=v;(.subst e;refine⟨d,c,rfl,?_⟩;simp only[upd_same];rcases n with⟨b,f,p,o,r⟩|n;(.exact Z ⟨b,f,s.le _ _ p,by rw[s.bs];exact o,r⟩);.exact ai n);.exact⟨d,c,rfl,by simp only[upd_ne E _ e];exact n⟩);.refine⟨v,hi,rfl,Z ⟨b,f,?_,?_,r⟩⟩;(.simp only[upd_same];exact p);.simp only[upd_same];rw[s.bs];omega);(.rintro⟨d,c,rfl,b,f,p,o,r⟩;by_cases e:d=v;(.subst e;simp only[upd_same]at p o;rw[s.bs]at o;rcases s.new b f p with p|p;(.exact⟨d,c,rfl,b,f,p,o,r⟩);.omega);.simp only[upd_ne E _ e]at p o;exact⟨d,c,rfl,b,f,p,o,r⟩);.rintro⟨d,c,rfl,b,f,p,o,r⟩;by_cases e:d=v;(.subst e;exact⟨d,c,rfl,b,f,by simp only[upd_same];exact s.le _ _ p,by simp only[upd_same];rw[s.bs];exact o,r⟩);.exact⟨d,c,rfl,b,f,by simp only[upd_ne E _ e];exact p,by simp only[upd_ne E _ e];exact o,r⟩
 .exact h.kn.app λop L=>ai (Z<|by rw[g_of_ofEvents op L];exact u)
 .rw[au t (by omega) _ g_of_ofEvents];exact h.deaf0
 .by_cases e:d=v;(.subst e;rw[bq,h.deafW d c,upd_same];exact R);.rw[au t (by omega) _ g_of_ofEvents,h.deafW d c,upd_ne D _ e]
 .by_cases e:d=v;(.subst e;rw[upd_same]at m;exact hrel m);.rw[upd_ne D _ e]at m;obtain⟨r,hr⟩:=h.rel d c m;exact⟨r,hr.appOther g_of_ofEvents<|by omega⟩
 .by_cases e:d=v;(.subst e;rw[upd_same]at m⊢;exact ae m);.rw[upd_ne D _ e]at m;rw[upd_ne E _ e];exact(aa d c e).out<|h.out d c m
def Cy.step0(X:Stat J)(h:Cy ok P J j E D U q ρ0 wh0 gs w t d0){g g':Y}{fn:aW}{pos:String}{d:iI}{f:H}(G:rH ok J ρ0 d wh0 f w w')(l:aD J.ty J.Wg w')(S:∀op∈aA 0 fn pos N,yX (ShN J.Wg) J.Old (jB J j) (yF J j E) (yc J j E) op)(ac:∀e∈N,e.loc≠.mark (.release<|stA J.Wg))(n:∀e∈N,(ay e).low w'.heap.size):Cy ok P J j E D U q d f ((gs.map<|woken P g g' w').setIfInBounds 0 g') w' (t++aA 0 fn pos N)<|deafBehind d0 N:=by
 have ad:=X.pos;obtain⟨l1,l2,l3,l4,l5,l6⟩:=h.mem.lt;have hR:=G.block J.R l3 (λc T=>absurd rfl (h.mem.qK c _ T).2.1) X.rw;have hC:=G.block J.C l2 (λc T=>(h.mem.qK c _ T).2.2.1 rfl) X.cw;have u:∀i,RT J i w w':=λi=>⟨λ_=>l,hC,λ⟨cs,a,b⟩=>⟨cs,hR.trans a,b⟩,λo _ _=>cell_of_block hR o⟩;have s:=h.mem.step0 X G;refine⟨by simp[h.size],λk x hk aa v=>?_,λk hk=>?_,λi hi=>?_,s,h.tl.app0 (h.mem.Hi X) S,h.kn.app λop L=>Z (g_of_ofEvents op L),h.norel.app<|norel_of ac,by rw[bq,h.deaf0],λi hi=>?_,λi hi m=>?_,λi hi m=>(u i).out<|h.out i hi m,JP h.low G.size n⟩;.rw[get_map_set _ _ _ _<|by omega]at v;obtain⟨y,hy,rfl⟩:=bg.1 v;have hq:=h.yR k y hk aa hy;rw[woken_quitsD hq,au t (by omega) _ g_of_ofEvents];exact hq
 .rw[au t (by omega) _ g_of_ofEvents];exact h.above k hk
 .obtain⟨x,v,p⟩:=h.wk i hi;exact⟨x,by rw[get_map_set _ _ _ _<|by omega,v,bF,p.woken],p.rely<|u i⟩
 .rw[au t (by omega) _ g_of_ofEvents,h.deafW i hi]
 .obtain⟨r,hr⟩:=h.rel i hi m;exact⟨r,hr.appOther g_of_ofEvents<|by omega⟩
def Cy.slip(X:Stat J)(h:Cy ok P J j E D U q ρ0 wh0 gs w t d0){k:Nat}(hk:0<k)(T:k<J.n0){g u:Y}{fn:aW}{pos:String}{n:Nat}(s:∀e∈N,e.mute=M)(L:QuitsD P n (deafBehind (aI t k) N) u):Cy ok P J j E D U (upd q k n) ρ0 wh0 ((gs.map<|woken P g u w).setIfInBounds k u) w (t++aA k fn pos N) d0:=by
 have o:∀op∈aA k fn pos N,op.act.touch?=Q:=λop b=>by obtain⟨e,l,rfl⟩:=aM b;exact touch_mute<|s e l
 refine⟨by simp[h.size],λk2 x a m c=>?_,λk2 a=>?_,λi hi=>?_,h.mem,h.tl.appMute g_of_ofEvents o,h.kn.app λop b=>ai (ai<|o op b),h.norel.app ?_,?_,λi hi=>?_,λi hi p=>?_,h.out,JP h.low (bP _) λe l=>low_mute (s e l) _⟩;.by_cases e:k=k2;(.subst e;(have v:k<gs.size:=by grind);rw[bN<|by simpa using v]at c;obtain rfl:=bO c;rw[upd_same,bq];exact L);.rw[get_map_set _ _ _ _ e]at c;obtain⟨y,R,rfl⟩:=bg.1 c;have d:=h.yR k2 y a m R;rw[woken_quitsD d,upd_ne q n<|Ne.symm e,au t e _ g_of_ofEvents];exact d
 .rw[au t (by omega) _ g_of_ofEvents];exact h.above k2 a
 .obtain⟨x,c,f⟩:=h.wk i hi;exact⟨x,by rw[get_map_set _ _ _ _<|by omega,c,bF,f.woken],f⟩
 .refine norel_of λe l C=>?_;have:=s e l;obtain⟨S,wr,sy⟩:=e;simp only at C;subst C;simp[Event.mute]at this
 .rw[au t (by omega) _ g_of_ofEvents];exact h.deaf0
 .rw[au t (by omega) _ g_of_ofEvents];exact h.deafW i hi
 .obtain⟨r,G⟩:=h.rel i hi p;exact⟨r,G.appOther g_of_ofEvents<|by omega⟩
end
end
noncomputable section
open Go.Conc Go.ConcN
open Go.ConcR(KK wgBlock WgAt stA smA rd wr mk Payload DC0 Bk g_of_ofEvents bk_of_mute ofEvent_loc_mark ofEvent_cell deafBehind_cons deafBehind_one)
variable[aJ]
def yN{a:Type}(r:Nat->a->a->Prop)(j:Nat)(y x:Nat->a):Prop:=∃i,i<j/\r i (y i) (x i)/\∀k,k<j->k≠i->y k=x k
omit[Payload]in theorem U2{c:Type}(r:Nat->c->c->Prop):∀(j:Nat)(x:Nat->c),(∀i,i<j->Acc (r i) (x i))->Acc (yN r j) x:=by intro j;induction j with|zero=>intro x _;exact⟨_,λy⟨i,hi,_⟩=>absurd hi<|by omega⟩|succ j u=>intro x l;(have key:∀a,Acc (r j) a->∀x,Acc (yN r j) x->x j=a->(∀i,i<j->Acc (r i) (x i))->Acc (yN r<|j+1) x:=by intro a s;induction s with|intro a _ p=>intro x l;induction l with|intro x _ g=>intro e b;refine⟨_,λy⟨i,hi,n,hk⟩=>?_⟩;rcases bQ i j with d|o;(.exact g y ⟨i,d,n,λk q f=>hk k (by omega) f⟩ ((hk j (by omega)<|by omega).trans e) λm h=>by by_cases t:m=i;(.subst t;exact(b m h).inv n);grind);grind);grind
def FA(P:B)(S:List V->H->Prop)(y x:List V×H):Prop:=¬S x.1 x.2/\∃b d a,(own P x.1).runT P (x.2.re b d) #[]=(.ok y.1 y.2,a)
omit[Payload]in theorem XC{ok:iO}{P:B}{S:List V->H->Prop}{l:List V}{wh:H}(h:Safe ok P S l wh):Acc (FA P S) (l,wh):=by induction h with|stop h=>exact⟨_,λy⟨a,_⟩=>absurd h a⟩|step hd h hs b=>exact⟨_,λy⟨a,c,d,f,e⟩=>b c d _ _ _ e⟩
def Ay(P:B)(S:List V->H->Prop):Option (List V×H)->Option (List V×H)->Prop|K y,K x=>FA P S y x|_,_=>False
omit[Payload]in theorem KS{P:B}{S:List V->H->Prop}:Acc (Ay P S) Q:=⟨_,λy h=>by cases y<;>exact h.elim⟩
omit[Payload]in theorem aem{P:B}{S:List V->H->Prop}{x:List V×H}(h:Acc (FA P S) x):Acc (Ay P S)<|K x:=by induction h with|intro x _ a=>refine⟨_,λy h=>?_⟩;cases y with|none=>exact KS|some y=>exact a y h
structure Sn where
 gs:Array Y
 w:H
 t:ar
 E:Nat->Gh
 D:Nat->WD
 U:Nat->Nat
 q:Nat->Nat
 st:Int
 sm:Int
structure jQ(ok:iO)(P:B)(J:mh)(j:Nat)(ρ0:iI)(wh0:H)(d0:Nat)(tag:aY)(s:Sn):Prop where
 cy:Cy ok P J j s.E s.D s.U s.q ρ0 wh0 s.gs s.w s.t d0
 wg:WgAt J.ty J.Wg s.w s.st s.sm
 mode:bX j s.D tag s.st s.sm
def kk(j:Nat)(s:Sn):Nat:=sumTo j λi=>3*(s.D i).stage+s.U i
def vv(s:Sn)(i:Nat):Option<|List V×H:=if s.U i=0 then Q else K ((s.E i).l,(s.E i).wh)
def ff(J:mh)(j:Nat)(s:Sn):Nat:=sumTo j (λi=>(s.D i).fuel)+sumTo J.n0 s.q
def tZ(P:B)(J:mh)(j:Nat)(a s:Sn):Prop:=kk j a<kk j s\/(kk j a=kk j s/\(yN (λi=>Ay P<|J.S i) j (vv a) (vv s)\/((∀i,i<j->vv a i=vv s i)/\ff J j a<ff J j s)))
def jQ.acc{ok:iO}{P:B}{J:mh}{e:iI}{f:H}{d0:Nat}{tag:aY}{s:Sn}(h:jQ ok P J v e f d0 tag s):Acc (yN (λi=>Ay P<|J.S i) v)<|vv s:=by
 refine U2 _ v _ λi hi=>?_;unfold vv;split;.exact KS
 .rename_i d;obtain⟨g,_,hs⟩:=h.cy.wk i hi;refine aem<|XC (ok:=J.ok) ?_;generalize(s.D i).stage=a at hs;generalize(s.D i).fuel=b at hs;generalize(s.D i).deaf=c at hs;generalize s.U i=u at hs d;cases hs with|pre hs _=>exact hs|gh hs _ _=>exact hs|tail _=>exact absurd rfl d|xq _ _=>exact absurd rfl d
def Nh{P:B}{J:mh}(I:Sn->Prop)(acc:∀s,I s->Acc (yN (λi=>Ay P<|J.S i) v) (vv s))(a:Sn->Prop)(step:∀s,I s->(∀c,I c->tZ P J v c s->a c)->a s):∀s,I s->a s:=by
 have key:∀(n:Nat)(x:Nat->Option (List V×H)),Acc (yN (λi=>Ay P<|J.S i) v) x->(∀s,kk v s<n->I s->a s)->∀(m:Nat)s,kk v s=n->(∀i,i<v->vv s i=x i)->ff J v s=m->I s->a s:=by intro n x p t;induction p with|intro x _ e=>intro m;induction m using bB with|_ m o=>intro s hk q D l;refine step s l λc g b=>?_;rcases b with h|⟨E,r|⟨y,w⟩⟩;(.grind);(.obtain⟨i,hi,u,f⟩:=r;exact e (vv c) ⟨i,hi,by grind,λk d b=>(f k d b).trans<|q k d⟩ (ff J v c) c (by omega) (λ_ _=>rfl) rfl g);grind
 intro s l;have all:∀n s,kk v s=n->I s->a s:=by intro n;induction n using bB with|_ n C=>grind
 grind
def H9(P:B)(J:mh):Prop:=∀(i:Nat)(E:Gh)(f:V)(a:List V)(w:H),J.S i E.l E.wh->mH J.ok P E.ρ E.l (f::a)->sr J.defers J.kind (f::a)->jz J.ok E.ρ E.wh w->sA J w->Iu J w->aD J.ty J.Wg w->∃m,aE P ah (RT J i) (DT J i) (λg w=>AtR0 P J.ty J.Wg J.C 1 0 1 J.val g w/\Out J i E w) m (G f<|a++J.base) w
def rM(a:Y)(tag:aY):Prop:=(a.status=aN/\tag≠.blk)\/∃b:Y,a={b with status:=.blocked}/\b.status=aN/\b.offers=Q/\tag=.blk
def uX(a:Y)(tag:aY)(c:Y)(b:aY):Prop:=(c=a/\b=tag)\/(tag=.blk/\b=.w3/\a={c with status:=.blocked}/\c.status=aN/\c.offers=Q)
noncomputable section
variable{ok:iO}{P:B}{J:mh}{j:Nat}{E:Nat->Gh}{D:Nat->WD}{U q:Nat->Nat}{ρ0:iI}{wh0 w w':H}{gs:Array Y}{t:ar}{d0:Nat}{tag:aY}{a:Y}{st sm:Int}
omit[Payload]in theorem NS(h:rM a tag)(g e:Y)(w':H):∃b,uX a tag (woken P g e w' a) b/\rM (woken P g e w' a) b/\(mayWake P g=M->e.status=aN->b≠.blk):=by
 rcases h with⟨c,d⟩|⟨f,rfl,c,d,rfl⟩;.rw[woken_run c];exact⟨tag,Z ⟨rfl,rfl⟩,Z ⟨c,d⟩,λ_ _=>d⟩
 .unfold woken;split;(.rw[bY c d];exact⟨.w3,ai ⟨rfl,rfl,rfl,c,d⟩,Z ⟨c,by simp⟩,λ_ _=>by simp⟩);.rename_i i;refine⟨.blk,Z ⟨rfl,rfl⟩,ai ⟨f,rfl,c,d,rfl⟩,λx y=>?_⟩;grind
omit[Payload]in theorem uX.retag{c:Y}{b:aY}(h:uX a tag c b):b=tag\/(tag=.blk/\b=.w3):=h.imp (·.2) λx=>⟨x.1,x.2.1⟩
omit[Payload]in theorem Yd{Wg:Nat}{s:an}{t:ar}{k r d:Nat}(h:sY (ShN Wg) s t k r)(n:aI t k=d)(fn:aW)(pos:String)(l:∀e∈N,Bk Wg e)(hd:∀j e,N[j]?=K e->(ay e).touch?=Q\/0<deafBehind d (N.extract 0 j)):sY (ShN Wg) s (t++aA k fn pos N) k r:=by
 refine⟨h.toRelBy.book n fn pos l hd,λi x hi C y=>?_⟩;obtain⟨op,m,c⟩:=touch_of y;rcases getElem?_append_cases m with⟨p,g⟩|⟨_,f⟩;.exact h.pj i x hi (by rw[<-g?_old p];exact C)<|by rw[touchAt_of g];exact c
 .obtain⟨e,v,rfl⟩:=aM f;rcases l e v with o|o|⟨b,wr,rfl,u⟩;(.simp only[ofEvent_loc_mark o]at c;cases c);(.simp only[ofEvent_loc_mark o]at c;cases c);.simp only[ofEvent_cell,az,aQ]at c;subst c;exact⟨b,rfl,u⟩
omit[Payload]in theorem yx{Wg:Nat}(g:Wg<v)(h:∀e∈N,Bk Wg e):∀e∈N,(ay e).low v:=by
 intro e d;rcases h e d with c|c|⟨b,wr,rfl,f⟩;.rw[ofEvent_loc_mark c];trivial
 .rw[ofEvent_loc_mark c];trivial
 .rw[ofEvent_cell];simp only[MemAct.low,aH];omega
omit[Payload]in theorem Vi{Wg:Nat}{Own l:Nat->Loc->Prop}{k:Nat}{fn:aW}{pos:String}(h:∀e∈N,Bk Wg e):∀op∈aA k fn pos N,EL (ShN Wg) Own l k op:=by
 intro op d;obtain⟨e,g,rfl⟩:=aM d;refine⟨rfl,λx c=>?_⟩;rcases h e g with f|f|⟨b,wr,rfl,i⟩;.simp only[ofEvent_loc_mark f]at c;cases c
 .simp only[ofEvent_loc_mark f]at c;cases c
 .simp only[ofEvent_cell,az,aQ]at c;subst c;exact Z ⟨⟨b,rfl,i⟩,by simp,by simp⟩
def yb.aside(d:Mem ok J j E ρ0 wh0 w)(hi:v<j)(e:∀b,b≠J.Wg->w'.heap[b]?=w.heap[b]?)(hs:w'.heap.size=w.heap.size)(g:w'.os=w.os/\w'.output=w.output:=by exact⟨rfl,rfl⟩):yb J v (E v) (E v) w w':=⟨rfl,yV (d.rel v hi) (by omega) (λb c k=>e c (d.pQ v hi b c k).1) g,iI.le.refl _,λb c h=>Z h,d.wm v hi,by omega,λc _ _ f _=>e c f⟩
def RT.aside(X:Stat J)(c:∀b,b≠J.Wg->w'.heap[b]?=w.heap[b]?)(e:aD J.ty J.Wg w'):RT J v w w':=⟨λ_=>e,c J.C X.cw,λ⟨d,a,b⟩=>⟨d,(c J.R X.rw).trans a,b⟩,λo _ _=>cell_of_block (c J.R X.rw) o⟩
end
end
end Go.Rel
namespace Go.Proofs.YtldeiiffabfmeaaGreatDoor
noncomputable section
open Go.Conc Go.ConcN Go.RowKit Go.Conc.Lib Go.ConcR.Gen Go.ConcN.Gen Go.Rel
open Go.ConcR(KK wgBlock WgAt stA smA rd wr mk Payload DC0 ofEvent_cell)
def tz:V:=baseD 131
def bot:V:={(default:V)with fn:=Tryz.prog.funcs.size,defers:=[],mode:=.panicking [goexitEntry]}
def FT:A:=Tryz.f131.body.getD .skip
def Dc:A:=match FT with|.seq _ b=>b|_=>.skip
def nU:Array Oper:=match Dc with|.region _ o _=>o|_=>#[]
def aav:Dc=.region 1 nU M:=rfl
def call131(d c a b e:W):aV:={target:=.fn (.func 131) #[d,c,a,b,e],args:=#[]}
def ug(d c a b e:W):Array W:=#[d,c,a,b,e,O,O,O,O,O,O,O,O,O,O,O,O,O,O,O,O,O,O,O,O,O,O,O,O,O,O]
def zq(Wg:Nat):aV:=dcall 132 #[aj<|K ⟨Wg,0,Q⟩]
def WO(c a e b d:W)(w:H):stepG z ah (born z<|call131 c a e b d) w=.go (G (tz.at ⟨ug c a e b d,[]⟩ [.code FT]) [bot]) w #[]:=by simp[born,call131,stepG,unwind,callDeferred,invoke,callFunc,bV,bG,seen,GStep.after,G,Frame.enter,Frame.at,tz,baseD,bot,FT,ug]
def Eg{R:H->H->Prop}{w a:H}(h:True)(_:R w a):True:=h
def Rb{R:H->H->Prop}(Wg:Nat)(h e c d:W)(w:H):aE z ah R DC0 (λg _=>g=G (tz.at ⟨ug (aj<|K ⟨Wg,0,Q⟩) h e c d,[zq Wg]⟩ [.code Dc]) [bot]) 8 (born z<|call131 (aj<|K ⟨Wg,0,Q⟩) h e c d) w:=by have hF:True:=trivial;refine Goes.step rfl λi a=>?_;rw[WO];refine⟨by u_nil,?_⟩;clear a;simp only[FT,bG,aK,ug];u_c stepG_seq Eg hF;u_reg Eg hF;u_defer Eg hF;u_c stepG_region_end Eg hF;exact Goes.stop λf b=>rfl
def U6(T:Array W)(a:List Item):QuitsD z 2 0<|G {tz.at ⟨T,[]⟩ a with mode:=.returning} [bot]:=by
 refine QuitsD.ctl (g':=G bot []) rfl (λw=>?_) ?_;.simp[G,stepG,unwind,doReturn,results,Frame.at,tz,baseD,bot,bV,bG,seen,GStep.after,goexitEntry]
 refine QuitsD.ctl (g':={G bot []with status:=.finished}) rfl (λw=>?_) ⟨rfl,rfl⟩;simp[G,stepG,unwind,bot,goexitEntry,Frame.catches];rfl
end
end Go.Proofs.YtldeiiffabfmeaaGreatDoor
namespace Go.Rel
noncomputable section
open Go.Conc Go.ConcN
def Ni{P:B}(g o:Nat)(t:aX):∀(m:List W)(i:Nat)(a:Array W)(w:H)(h:Array ak),w.heap[g]?=K (ao a t)->o+i+m.length<=a.size->(∀v∈m,v.oneCell'=M)->∃f c d,(storeCells ⟨g,o,Q⟩ m i).runT P w h=(.ok () f,h++d)/\(f.heap.size=w.heap.size/\f.os=w.os/\f.output=w.output)/\(∀b,b≠g->f.heap[b]?=w.heap[b]?)/\f.heap[g]?=K (ao c t)/\c.size=a.size/\(∀k,k<m.length->c[o+i+k]?=m[k]?)/\(∀k,(k<o+i\/o+i+m.length<=k)->c[k]?=a[k]?)/\∀e∈d,∃k,i<=k/\k<i+m.length/\e=⟨ax ⟨g,o+k,Q⟩,M,ah⟩|[],i,a,w,h,n,E,u=>⟨w,a,#[],by simp[storeCells],⟨rfl,rfl,rfl⟩,λ_ _=>rfl,n,rfl,λk hk=>absurd hk<|by simp,λ_ _=>rfl,by simp⟩|v::rest,i,a,w,h,n,E,u=>by(have hi:o+i<a.size:=by simp at E;omega);(have p:(⟨g,o,Q⟩:an).add i=⟨g,o+i,Q⟩:=by unfold Addr.add;simp);(have l:w.cell? ⟨g,o+i,Q⟩=K a[o+i]:=by simp[bw,n,hi]);(have q:w.frozen? ⟨g,o+i,Q⟩=ah:=by simp[World.frozen?,n]);have D:=u v (by simp);have j:=setCell_eq_setRow w g (o+i) a t (0,0) v n;(have s:(store ((⟨g,o,Q⟩:an).add i) v).runT P w h=(.ok ()<|w.setRow g<|a.setIfInBounds (o+i) v,h.push ⟨ax ⟨g,o+i,Q⟩,M,ah⟩):=by rw[p,<-j];unfold store;cases v with|agg _=>simp[bz]at D|tuple _=>simp[bz]at D|_=>simp only[Sem.runT,l,q];rfl);have r:(w.setRow g<|a.setIfInBounds (o+i) v).heap[g]?=K (ao (a.setIfInBounds (o+i) v) t):=setRow_heap w g a _ t _ n;have y:=aside_setCell w ⟨g,o+i,Q⟩ v;rw[j]at y;obtain⟨f,c,d,k1,k2,k3,k4,k5,k6,N,J⟩:=Ni g o t rest (i+1) (a.setIfInBounds (o+i) v) (w.setRow g<|a.setIfInBounds (o+i) v) (h.push ⟨ax ⟨g,o+i,Q⟩,M,ah⟩) r (by grind) λx G=>u x (by simp[G]);refine⟨f,c,#[⟨ax ⟨g,o+i,Q⟩,M,ah⟩]++d,?_,⟨k2.1.trans y.size,k2.2.1,k2.2.2⟩,λb C=>(k3 b C).trans<|y.block b C,k4,by simpa using k5,λk hk=>?_,λk hk=>?_,λe L=>?_⟩;(.show(store ((⟨g,o,Q⟩:an).add i) v>>=λ_=>storeCells ⟨g,o,Q⟩ rest (i+1)).runT P w h=_;rw[oA,s];simp only;rw[k1];simp);(.grind);(.grind);grind
end
end Go.Rel
namespace Go.Proofs.YtldeiiffabfmeaaGreatDoor
noncomputable section
open Go.Conc Go.ConcN Go.RowKit Go.Conc.Lib Go.ConcR.Gen Go.ConcN.Gen Go.Rel
open Go.ConcR(KK wgBlock WgAt stA smA rd wr mk Payload DC0 ofEvent_cell)
def zN:V:=base 131
def O0(okW:iO)(n:Nat)(RS:Nat->Array W->H->Prop)(i:Nat)(l:List V)(wh:H):Prop:=∃(T:Array W)(x:Array W),l=[zN.at ⟨T,[]⟩ [aP nU [25,26]]]/\T.size=31/\T[5]?=K (bH okW.jX<|F I (1:Nat))/\T[6]?=K (F I i)/\T[29]?=K (aF x)/\x.size=6/\(∀v∈x,v.oneCell'=M)/\i<n/\RS i x wh
def PY(okW:iO)(n:Nat)(RS:Nat->Array W->H->Prop)(i:Nat)(E:Gh)(row:Nat->Option W):Prop:=∃(x a:Array W),x.size=6/\RS i x E.wh/\iV okW E.ρ x a/\i<n/\∀k,k<6->row (6*i+k)=a[k]?
def uM(Wg C R n n0 N0 N1:Nat)(w1:H)(Still:Nat->Prop)(Old:Loc->Prop)(okW:iO)(RS:Nat->Array W->H->Prop):mh where
 ty:=224;Wg:=Wg;C:=C;R:=R;KQ:=202;PF:=6*n;val:=ae (K ⟨R,0,Q⟩) n n;n0:=n0;N0:=N0;N1:=N1;w1:=w1;Still:=Still;Old:=Old;ok:=okW;base:=[bot];defers:=[zq Wg];kind:=.deferred;S:=O0 okW n RS;lo:=λi=>6*i;hi:=λi=>6*i+6;uI:=PY okW n RS
def AV:Oper:=nU[25]?.getD default
def yW:Oper:=nU[26]?.getD default
def Fj:nU[25]?=K AV/\AV.op=.indexAddr 198 (.tmp 5) (.tmp 6)/\AV.dst=K 30/\AV.guard=Q:=⟨rfl,rfl,rfl,rfl⟩
def E6:nU[26]?=K yW/\yW.op=.store 202 (.tmp 30) (.tmp 29)/\yW.dst=Q/\yW.guard=Q:=⟨rfl,rfl,rfl,rfl⟩
def aaw:(Tryz.prog.funcs[131]?).any (·.norace)=ah:=by kernel_rfl
noncomputable section
variable{T:Array W}{D:List aV}{i n R:Nat}{k:List Item}{cs:List V}{w:H}
def Tq(c:T[5]?=K (ae (K ⟨R,0,Q⟩) n n))(f:T[6]?=K (F I i))(hi:i<n):stepG z ah (G (tz.at ⟨T,D⟩<|aP nU [25,26]::k) cs) w=.go (G (tz.at ⟨T.setIfInBounds 30<|aj<|K ⟨R,6*i,Q⟩,D⟩<|aP nU [26]::k) cs) w #[]:=by
 have e5:(⟨T,D⟩:Act).eval (.tmp 5)=ae (K ⟨R,0,Q⟩) n n:=by simp[Act.eval,bA,c]
 have e6:(⟨T,D⟩:Act).eval (.tmp 6)=F I i:=by simp[Act.eval,bA,f]
 have b:(i)<(n):=by omega
 have a:(0)<=(i):=by omega
 have d:(execOp (⟨T,D⟩:Act).eval AV).run z w=.ok (.value<|aj<|K ⟨R,6*i,Q⟩) w:=by unfold execOp;simp only[Fj.2.1,e5,e6];simp[go_sem,b,a]<;>omega
 have e:(execOp (⟨T,D⟩:Act).eval AV).events z w #[]=#[]:=by unfold execOp;simp only[Fj.2.1,e5,e6];simp[go_sem,b,a]
 rw[stepG_value Fj.1 (by simp[Region.wanted,Fj.2.2.2]) (by decide) d];unfold listed;rw[e,seen_none];rfl
def abv{x:Array W}{c:Array W}(j:T[30]?=K (aj<|K ⟨R,6*i,Q⟩))(m:T[29]?=K (aF x))(q:x.size=6)(y:∀v∈x,v.oneCell'=M)(C:w.heap[R]?=K (ao c 202))(N:c.size=6*n)(hi:i<n):∃d a g,stepG z ah (G (tz.at ⟨T,D⟩<|aP nU [26]::k) cs) w=.go (G (tz.at ⟨T,D⟩<|aP nU []::k) cs) d g/\(d.heap.size=w.heap.size/\d.os=w.os/\d.output=w.output)/\(∀b,b≠R->d.heap[b]?=w.heap[b]?)/\d.heap[R]?=K (ao a 202)/\a.size=c.size/\(∀k,k<6->a[6*i+k]?=x[k]?)/\(∀k,(k<6*i\/6*i+6<=k)->a[k]?=c[k]?)/\∀e∈g,∃k,k<6/\e=⟨ax ⟨R,6*i+k,Q⟩,M,ah⟩:=by
 have p:(⟨T,D⟩:Act).eval (.tmp 30)=aj (K ⟨R,6*i,Q⟩):=by simp[Act.eval,bA,j]
 have l:(⟨T,D⟩:Act).eval (.tmp 29)=aF x:=by simp[Act.eval,bA,m]
 obtain⟨d,a,g,k1,k2,k3,k4,k5,k6,J,P⟩:=Ni R (6*i) 202 x.toList 0 c w #[] C (by simp[q];omega) λv r=>y v (by simpa using r);have s:(execOp (⟨T,D⟩:Act).eval yW).runT z w #[]=(.ok .skip d,g):=by unfold execOp;simp only[E6.2.1,p,l];(have hs:(Instr.storeAt 202 (aj<|K ⟨R,6*i,Q⟩)<|aF x).runT z w #[]=(.ok () d,g):=by(have L:(sizeOf 202).events z w #[]=#[]:=by simp[go_sem]);(have o:(sizeOf 202).runT z w #[]=(.ok 6 w,#[]):=by simp);show(storeVar 202 ⟨R,6*i,Q⟩<|aF x).runT z w #[]=_;unfold storeVar;rw[oA,o];simp only[Value.cells,q,ne_eq,not_true_eq_false,if_false];rw[show(Sem.runT z (do pure PUnit.unit;storeCells ⟨R,6*i,Q⟩ x.toList) w #[])=_ from k1];simp);simp_all
 have u:(execOp (⟨T,D⟩:Act).eval yW).run z w=.ok .skip d:=by simp_all
 have E:(execOp (⟨T,D⟩:Act).eval yW).events z w #[]=g:=congrArg Prod.snd s;refine⟨d,a,g,?_,k2,k3,k4,k5,λk hk=>by grind,λk hk=>J k<|by grind,λe h=>?_⟩;.rw[stepG_none E6.1 (by simp[Region.wanted,E6.2.2.2]) (by decide) u];unfold listed;have t:seen z tz.fn g=g:=seen_eq aaw (λe h f=>by grind);rw[E,t,E6.2.2.1];rfl
 grind
end
end
noncomputable section
open Go.Conc Go.ConcN Go.RowKit Go.Conc.Lib Go.ConcR.Gen Go.ConcN.Gen Go.Rel
open Go.ConcR(KK wgBlock WgAt stA smA rd wr mk Payload DC0 ofEvent_cell)
variable{Wg C R n n0 N0 N1:Nat}{w1:H}{Still:Nat->Prop}{Old:Loc->Prop}{okW:iO}{RS:Nat->Array W->H->Prop}
def Fh{ok:iO}{ρ:iI}{k:Nat}{a:W}(h:iH ok ρ (bH ok.jX<|F I k) a):a=ok.tags k:=by generalize b:(bH ok.jX<|F I k)=v at h;cases h with|iface t h c=>grind|tag m d e h=>grind|_=>cases b
def aev{ok:iO}{ρ:iI}{k:IntKind}{m:Int}{a:W}(h:iH ok ρ (F k m) a):a=F k m:=by cases h;rfl
def acV{ok:iO}{ρ:iI}{x:Array W}{a:W}(h:iH ok ρ (aF x) a):∃b,a=aF b/\iV ok ρ x b:=by obtain⟨x⟩:=x;cases h with|agg c=>exact⟨_,rfl,c⟩
def WZ{ok:iO}{ρ:iI}{v a:W}(h:iH ok ρ v a)(b:v.oneCell'=M):a.oneCell'=M:=by cases h with|agg=>simp[bz]at b|tuple=>simp[bz]at b|jP h=>(cases‹W›<;>first|exact h.elim|rfl)|tag _ _ _ h=>(cases‹W›<;>first|exact h.elim|rfl)|_=>rfl
def OQ{P:B}{f:Bool}{R j:H->H->Prop}{D o:H->H->Array ak->Prop}{S q:Y->H->Prop}(i:∀a b,j a b->R a b)(l:∀a b p,D a b p->o a b p)(k:∀g w c,S g c->j w c->q g c):∀m g w,aE P f R D S m g w->aE P f j o q m g w|0,g,w,h=>λc e=>k g w c (h c<|i _ _ e) e|m+1,g,w,h=>by rcases h with h|⟨hs,h⟩;(.exact Z λc e=>k g w c (h c<|i _ _ e) e);.refine ai ⟨hs,λc e=>?_⟩;have:=h c<|i _ _ e;revert this;cases stepG P f g c<;>simp only[GStep.goes,imp_self];exactλ⟨d,x⟩=>⟨l _ _ _ d,OQ i l k m _ _ x⟩
def G5{P:B}{e:Bool}{R l:H->H->Prop}{q:H->H->Array ak->Prop}{S o:Y->H->Prop}{f:H->Prop}(i:∀a b,l a b->R a b)(j:∀a b,l a b->f a->f b)(p:∀a,q a a #[])(k:∀g w,S g w->f w->o g w):∀m g w,f w->aE P e R DC0 S m g w->aE P e l q o m g w|0,g,w,hi,h=>λc d=>k g c (h c<|i _ _ d) (j _ _ d hi)|m+1,g,w,hi,h=>by rcases h with h|⟨hs,h⟩;(.exact Z λc d=>k g c (h c<|i _ _ d) (j _ _ d hi));.refine ai ⟨hs,λc d=>?_⟩;have:=h c<|i _ _ d;revert this;cases stepG P e g c<;>simp only[GStep.goes,imp_self];exactλ⟨⟨e1,e2⟩,x⟩=>by subst e1 e2;exact⟨p _,G5 i j p k m _ _ (j _ _ d hi) x⟩
def acG(am:okW.tags 1=ae (K ⟨R,0,Q⟩) n n)(aA:R≠C)(aG:R≠Wg):Go.Rel.H9 z<|uM Wg C R n n0 N0 N1 w1 Still Old okW RS:=by intro i E f aQ w hS hL an hW ar ad U;obtain⟨T,x,hl,aB,h5,h6,aN,hx,ap,hi,ax⟩:=hS;rw[hl]at hL;cases hL with|one hf=>obtain⟨hd,hk⟩:f.defers=[zq Wg]/\f.kind=.deferred:=an;have hT:=hf.tmps;(have g5:f.tmps[5]?=K (ae (K ⟨R,0,Q⟩) n n):=by rcases hT.get? 5 with⟨e,_⟩|⟨v,v',e1,e2,e3⟩;(.have:T[5]?=Q:=e;grind);.have d:T[5]?=K v:=e1;rw[h5]at d;cases d;have e4:=Fh e3;rw[e2,e4];exact congrArg K am);(have g6:f.tmps[6]?=K (F I i):=by rcases hT.get? 6 with⟨e,_⟩|⟨v,v',e1,e2,e3⟩;(.have:T[6]?=Q:=e;grind);.have d:T[6]?=K v:=e1;rw[h6]at d;cases d;rw[e2,aev e3]);(obtain⟨y,aO,S⟩:∃y,f.tmps[29]?=K (aF y)/\iV okW E.ρ x y:=by rcases hT.get? 29 with⟨e,_⟩|⟨v,v',e1,e2,e3⟩;(.have:T[29]?=Q:=e;grind);.have d:T[29]?=K v:=e1;rw[aN]at d;cases d;obtain⟨y,rfl,X⟩:=acV e3;exact⟨y,e2,X⟩);(have X:y.size=6:=by rw[<-S.size];exact hx);(have ac:∀v∈y,v.oneCell'=M:=by intro v hv;obtain⟨k,hk,rfl⟩:=bJ.1 hv;rcases S.get? k with⟨_,e⟩|⟨u,u',e1,e2,e3⟩;(.grind);.rw[bm hk]at e2;cases e2;exact WZ e3<|ap u<|bU e1);(have aJ:f.tmps.size=31:=by have:=hT.size;rw[<-this];exact aB);(have aH:f=tz.at ⟨f.tmps,[zq Wg]⟩ [aP nU [25,26]]:=by have a1:=hf.fn;have a2:=hf.todo;have a3:=hf.mode;have a4:=hf.tA;obtain⟨fn,tmps,todo,defers,mode,kind,round⟩:=f;simp only[zN,base,Frame.at]at a1 a2 a3 a4 hd hk;subst a1 a2 a3 a4 hd hk;rfl);rw[aH];obtain⟨al,ay,aq⟩:=ar;(suffices key:∃m,∀c,sA (uM Wg C R n n0 N0 N1 w1 Still Old okW RS) c->Iu (uM Wg C R n n0 N0 N1 w1 Still Old okW RS) c->aD 224 Wg c->aE z ah (RT (uM Wg C R n n0 N0 N1 w1 Still Old okW RS) i) (DT (uM Wg C R n n0 N0 N1 w1 Still Old okW RS) i) (λg w=>AtR0 z 224 Wg C 1 0 1 (ae (K ⟨R,0,Q⟩) n n) g w/\Out (uM Wg C R n n0 N0 N1 w1 Still Old okW RS) i E w) m (G (tz.at ⟨f.tmps.setIfInBounds 30<|aj<|K ⟨R,6*i,Q⟩,[zq Wg]⟩ [aP nU [26]]) [bot]) c by obtain⟨m,hm⟩:=key;refine⟨m+1,ai ⟨rfl,λJ p=>?_⟩⟩;show(stepG z ah (G (tz.at ⟨f.tmps,[zq Wg]⟩<|aP nU [25,26]::[])<|[]++[bot]) J).goes _;rw[show([]++[bot]:List V)=[bot]from rfl,Tq g5 g6 hi];refine⟨⟨rfl,λ_ _=>rfl,id,λ_ _=>rfl,by simp,rfl,rfl⟩,hm J (p.row ⟨al,ay,aq⟩) (p.var.trans ad)<|p.live U⟩);(have az:(f.tmps.setIfInBounds 30<|aj<|K ⟨R,6*i,Q⟩)[30]?=K (aj<|K ⟨R,6*i,Q⟩):=by simp[aJ]);(have av:(f.tmps.setIfInBounds 30<|aj<|K ⟨R,6*i,Q⟩)[29]?=K (aF y):=by grind);refine⟨100,λc q t l=>ai ⟨rfl,λL s=>?_⟩⟩;obtain⟨aM,aa,au⟩:=s.row q;have P:L.heap[R]?=K (ao aM 202):=aa;obtain⟨N,aw,es,q1,⟨q2,aC,aL⟩,q3,q4,q5,q6,q7,q8⟩:=abv (D:=[zq Wg]) (k:=[]) (cs:=[bot]) az av X ac P au hi;rw[q1];(have ak:Out (uM Wg C R n n0 N0 N1 w1 Still Old okW RS) i E N:=by refine⟨x,y,hx,ax,S,hi,λk hk=>?_⟩;(have:(6*i<=6*i+k/\6*i+k<6*i+6):=by omega);show(if 6*i<=6*i+k/\6*i+k<6*i+6 then N.cell? ⟨R,6*i+k,Q⟩else Q)=_;rw[if_pos this,<-q6 k hk];simp[bw,q4]);have r:N.heap[C]?=K (ao #[ae (K ⟨R,0,Q⟩) n n] Payload.ety):=(q3 C<|Ne.symm aA).trans<|s.var.trans t;(have j:aD 224 Wg N:=by obtain⟨st,sm,hl⟩:=s.live l;exact⟨st,sm,hl.of_block<|q3 Wg<|Ne.symm aG⟩);refine⟨⟨q2,q3,λ_=>⟨aw,q4,q5.trans au⟩,λo ho=>?_,λe he=>?_,aC,aL⟩,?_⟩;(. (have aI:o<6*i\/6*i+6<=o:=by have:¬(6*i<=o/\o<6*i+6):=ho;omega);show N.cell? ⟨R,o,Q⟩=L.cell? ⟨R,o,Q⟩;simp[bw,q4,P,q7 o aI]);(.obtain⟨k,hk,rfl⟩:=q8 e he;exact⟨6*i+k,M,rfl,by show 6*i<=_;omega,by show _<6*i+6;omega⟩);.have hK:aD vA.tWg Wg N/\Has C (1-1) (ae (K ⟨R,0,Q⟩) n n) N:=⟨j,by simp[Has,bw,r]⟩;refine G5 (λa b h=>h.rw) (λa b h ho=>h.out ho) (λa=>⟨rfl,λ_ _=>rfl,id,λ_ _=>rfl,by simp,rfl,rfl⟩) (λg w h ho=>⟨h,ho⟩) 99 _ N ak ?_;u_c stepG_region_end kn_rely hK;u_c stepG_end kn_rely hK;u_in kn_rely hK;rw[stepG_unwind_enter rfl Tryz.func132 (nm_done vA) rfl];simp only[goes_go];refine⟨by u_nil,?_⟩;walk_nrmf Tryz.f132;have hA:=@acD _ vA z Wg C 1 0 1 (ae (K ⟨R,0,Q⟩) n n) FI;simp only[body_done,doneFn,aK]at hA;refine Gx (n:=60) ?_ (by omega);exact hA rfl (U6 _ _) _ hK|cons hf hp hs=>cases hs
end
noncomputable section
open Go.RowKit
def tf:A:=Tryz.f109.body.getD .skip
def iA:A->A|.seq a _=>a|c=>c
def iy:A->A|.seq _ b=>b|c=>c
def Ac:A->A|.block _ c|.loop c=>c|c=>c
def r0:A:=iA tf
def r1:A:=iA<|iy tf
def r2:A:=iA<|iy<|iy tf
def t3:A:=iy<|iy<|iy tf
def r3:A:=iA<|iA t3
def Ej:A:=iy<|iA t3
def lp:A:=Ac Ej
def lb:A:=Ac lp
def r4:A:=iA lb
def NB:A:=iA<|iy<|iy lb
def EX:A:=Ac NB
def r5:A:=iA EX
def r6:A:=iA<|iy EX
def r7:A:=iy<|iy EX
def r8:A:=iy<|iy<|iy lb
def t9:A:=iy t3
def r9:A:=iA t9
def vW:A:=iA<|iy t9
def Sc:tf=.seq r0 (.seq r1<|.seq r2<|.seq (.seq r3<|.block 0<|.loop lb)<|.seq r9<|.seq vW .ret):=rfl
def MF:lb=.seq r4 (.seq (.cond (.tmp 15) .skip<|.exit 0)<|.seq (.block 1<|.seq r5<|.seq r6 r7) r8):=rfl
def s0(p rd:W):Array W:=#[p,rd,O,O,O,O,O,O,O,O,O,O,O,O,O,O,O,O,O,O,O,O,O,O]
def s1(p rd:W)(N:Nat):Array W:=#[p,rd,aj<|K ⟨N,0,Q⟩,O,ae Q 0 0,O,O,O,O,O,O,O,O,O,O,O,O,O,O,O,O,O,O,O]
def QS(pa:an)(rd:W)(w:H):r0.wp z (λe a b=>e=aZ/\a=⟨s1 (aj<|K pa) rd w.heap.size,[]⟩/\b=w.alloc (ao #[aj<|K pa] 167)) ⟨s0 (aj<|K pa) rd,[]⟩ w:=by simp only[r0,tf,bd,aK,iA,s0,s1];go_wp2
def s2(p rd:W)(n N:Nat):Array W:=#[p,rd,aj<|K ⟨N,0,Q⟩,O,ae Q 0 0,aj<|K ⟨N+2,0,Q⟩,O,O,O,rd,F I n,ae (K ⟨N+1,0,Q⟩) n n,O,O,O,O,O,O,O,O,O,O,O,O]
def Vm:(Tryz.prog.info? 202).map (λi=>(i.zero,i.size,i.bytes))=K (K<|aF #[aq ah,F I 0,F I 0,F I 0,F I 0,ae Q 0 0],6,64):=by kernel_rfl
def TD(n:Nat)(f:n<2147483647):∃a:Array W,a.size=6*n/\∀w:H,(Instr.makeSlice 198 (F I (n:Int))<|F I (n:Int)).run z w=.ok (ae (K ⟨w.heap.size,0,Q⟩) n n) (w.alloc<|ao a 202):=by
 obtain⟨a,d,c⟩:=EM 198 202 _ 6 64 Tryz.underlying198 Vm n (by omega) (by unfold maxLen;omega) (λj=>(#[aq ah,F I 0,F I 0,F I 0,F I 0,ae Q 0 0])[j%6]!) λj _=>rfl;obtain⟨b,e1,e2,_⟩:=c default;have e:((default:H).alloc<|ao a 202).heap[(default:H).heap.size]?=K (ao a 202):=by show((default:H).heap.push _)[_]?=_;simp
 grind
def aeo(pa:an)(ra:Option an)(n c N:Nat)(b:Array W)(g:∀w:H,(Instr.makeSlice 198 (F I (n:Int))<|F I (n:Int)).run z w=.ok (ae (K ⟨w.heap.size,0,Q⟩) n n) (w.alloc<|ao b 202))(w:H)(f:w.heap.size=N+1):r1.wp z (λe a d=>e=aZ/\a=⟨s2 (aj<|K pa) (ae ra n c) n N,[]⟩/\d=(w.alloc<|ao b 202).alloc (ao #[ae (K ⟨N+1,0,Q⟩) n n] 198)) ⟨s1 (aj<|K pa) (ae ra n c) N,[]⟩ w:=by simp only[r1,tf,bd,aK,iA,iy,s1,s2];go_wp2
def sT(p rd pb a b:W)(n i:Nat)(f:Nat->W):Array W:=#[p,rd,pb,f 3,f 4,a,b,f 7,f 8,f 9,f 10,f 11,rd,F I n,F I i,f 15,f 16,f 17,f 18,f 19,f 20,f 21,f 22,f 23]
def mq(f:Nat->W)(k:Nat)(v:W):Nat->W:=λj=>if j=k then v else f j
noncomputable section
variable(p rd pb cv gv:W)(n i:Nat)(f:Nat->W)(w:H)
def Mt:r4.wp z (λe a b=>e=aZ/\a=⟨sT p rd pb cv gv n i<|mq f 15<|aq<|decide<|i<n,[]⟩/\b=w) ⟨sT p rd pb cv gv n i f,[]⟩ w:=by
 have h:decide ((i)<(n))=decide (i<n):=by simp
 simp only[r4,lb,lp,Ej,t3,tf,bd,aK,iA,iy,Ac,sT,mq];go_wp2
def Xw(hi:i<2147483647):r8.wp z (λe a b=>e=aZ/\a=⟨sT p rd pb cv gv n (i+1)<|mq f 21<|F I<|(i:Int)+1,[]⟩/\b=w) ⟨sT p rd pb cv gv n i f,[]⟩ w:=by
 simp only[r8,lb,lp,Ej,t3,tf,bd,aK,iA,iy,Ac,sT,mq];have c:wrap64 ((i)+1)=(i)+1:=by unfold wrap64;omega
 go_wp2
end
noncomputable section
variable(p pb cv gv:W)(rb ro n c i:Nat)(f:Nat->W)(w:H)(iz:Int)(rdd:Bool)(kept:W)(b0 b1 b2 b3:Bool)
def abU(hi:i<n)(ka:Option an)(kn kc:Nat)(c0:w.cell? ⟨rb,ro+i*7,Q⟩=K (F I iz))(c1:w.cell? ⟨rb,ro+i*7+1,Q⟩=K (aq rdd))(c2:w.cell? ⟨rb,ro+i*7+2,Q⟩=K (ae ka kn kc))(c3:w.cell? ⟨rb,ro+i*7+3,Q⟩=K (aq b0))(c4:w.cell? ⟨rb,ro+i*7+4,Q⟩=K (aq b1))(c5:w.cell? ⟨rb,ro+i*7+5,Q⟩=K (aq b2))(c6:w.cell? ⟨rb,ro+i*7+6,Q⟩=K (aq b3)):r5.wp z (λe a b=>e=aZ/\a=⟨sT p (ae (K ⟨rb,ro,Q⟩) n c) pb cv gv n i<|mq (mq (mq (mq (mq f 16<|F I i) 17<|aj<|K ⟨rb,ro+i*7,Q⟩) 18<|aF #[F I iz,aq rdd,ae ka kn kc,aq b0,aq b1,aq b2,aq b3]) 7<|aj<|K ⟨w.heap.size,0,Q⟩) 8<|aj<|K ⟨w.heap.size+1,0,Q⟩,[]⟩/\b=(w.alloc<|ao #[F I i] 3).alloc (ao #[F I iz,aq rdd,ae ka kn kc,aq b0,aq b1,aq b2,aq b3] 173)) ⟨sT p (ae (K ⟨rb,ro,Q⟩) n c) pb cv gv n i f,[]⟩ w:=by
 have g:(i)<(n):=by omega
 have d:(0)<=(i):=by omega
 simp only[r5,EX,NB,lb,lp,Ej,t3,tf,bd,aK,iA,iy,Ac,sT,mq];go_wp2
end
def afC(p b pb cv gv q l m j o d g:W)(ra:Option an)(n c:Nat)(w:H)(h:b=ae ra n c):r3.wp z (λe a r=>e=aZ/\a=⟨sT p b pb cv gv n 0 λk=>if k=3 then q else if k=4 then l else if k=7 then m else if k=8 then j else if k=9 then o else if k=10 then d else if k=11 then g else O,[]⟩/\r=w) ⟨#[p,b,pb,q,l,cv,gv,m,j,o,d,g,O,O,O,O,O,O,O,O,O,O,O,O],[]⟩ w:=by subst h;simp only[r3,t3,tf,bd,aK,iA,iy,sT];go_wp2
def acs(p rd pb gv:W)(n i b:Nat)(f:Nat->W)(w:H)(ra:an)(m k:Nat)(g:w.cell? ⟨b,0,Q⟩=K (ae (K ra) m k)):vW.wp z (λe a d=>e=aZ/\a.defers=[]/\a.tmps.getD 4 O=ae (K ra) m k/\d=w) ⟨sT p rd pb (aj<|K ⟨b,0,Q⟩) gv n i f,[]⟩ w:=by simp only[vW,t9,t3,tf,bd,aK,iA,iy,sT];go_wp2
end
end Go.Proofs.YtldeiiffabfmeaaGreatDoor
