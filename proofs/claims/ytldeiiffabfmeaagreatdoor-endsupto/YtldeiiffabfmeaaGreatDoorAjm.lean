/- - -/
import Derived.Test.YtldeiiffabfmeaaGreatDoorAim
import Derived.Test.YtldeiiffabfmeaaGreatDoorUbm
set_option linter.all false
set_option maxRecDepth 100000
set_option maxHeartbeats 4000000
open Option renaming some->E,none->I,getD_some->bN,bind_some->bT,map_eq_some_iff->cA
open Bool renaming true->O,false->K,and_eq_true->ai,false_eq_true->bF
open Go renaming Frame->U,World->Z,Item->u,Value->N,undef->an,TypeId->aq,Program->au,Oper->ax,Code->aE,Operand->aF,Addr->aG,Question->aH,Exit->aK,Goroutine->aY,FuncId->bC
open Go.Item renaming code->z,inRegion->V,inBlock->aI,inLoop->aX
open Go.Proofs.Tryz renaming prog->W,func109->bO
open Go.Value renaming pointer->m,slice->A,bool->ak,int->ao,nilFunc->aP,tuple->bh,iface->bj,nilIface->bM
open Or renaming inl->Y,inr->ah
open Go.Code renaming seq->ae,region->aA,block->aJ,cond->aN,ret->aW,loop->aZ,exit->bn,skip->bw,refuse->bA
open Go.Obj renaming cells->aj
open Go.Conc.Goes renaming stop->ar,step->bQ
open Go.Frame renaming enter->ay,finish_at->bD,eval_at->bV
open Go.Exit renaming normal->az,ret->aM,exit->bm,inBlock->bJ
open Go.CallKind renaming normal->aD,early->cD
open Go.Region renaming wanted->aQ,schedule->bB,Mode->cE,binds->cF
open Go.Departure renaming mixedOrders->aU
open List renaming forall_mem_cons->aV,range->bq,all_eq_true->bz,nil_append->bE,length->bG,mem_singleton->bI,cons_append->bU,mem_cons_self->cg,getElem?_toArray->ck,getElem?_cons_zero->cx
open Go.Ending renaming returned->bd
open Array renaming replicate->bg,mem_of_getElem?->bR,mem_iff_getElem->bX,getElem_extract->bY,getElem?_eq_some_iff->cz
open Go.Act renaming eval->bl
open Nat renaming le_refl->bu,le_trans->bH,le_succ->bP,eq_zero_or_pos->cj
open Option.some renaming injEq->bK
variable{v e g:List U}{h l:List u}{r D F:Nat}{X:List Nat}
namespace Go.Rel
section
open Go.Conc(G)
variable{ok:iO}{ρ ρ':iI}{P:au}
def Safe.re{S:List U->Z->Prop}(e:∀l w b d,S l w->S l (w.re b d)){l:List U}{w:Z}(h:Safe ok P S l w)(b:Nat->aH->Nat)(d:Nat):Safe ok P S l<|w.re b d:=by cases h with|stop h=>exact .stop<|e _ _ _ _ h|step hd h hs=>exact .step hd (λa c=>h a c) λa c=>hs a c
def Safe.mono{S S':List U->Z->Prop}(a:∀l w,S l w->S' l w){l:List U}{w:Z}(h:Safe ok P S l w):Safe ok P S' l w:=by induction h with|stop h=>exact .stop<|a _ _ h|step hd h hs b=>exact .step hd h b
def age{fr:U}(b:fr.mode=.run)(d:List U):own P (fr::d)=own P [fr]>>=λl=>pure (l++d):=by obtain⟨fn,tmps,todo,defers,mode,kind,round⟩:=fr;simp only at b;subst b;unfold own;simp only[];cases todo with|nil=>rfl|cons it k=>cases it with|code c=>(cases c with|cond c x y=>simp only[];split<;>rfl|exit id=>simp only[];split<;>rfl|region id ops a=>simp only[];cases a<;>rfl|_=>rfl)|inRegion ops l=>(cases l with|nil=>rfl|cons i rest=>simp only[];cases ops[i]? with|none=>rfl|some o=>simp only[];split;(.simp only[bind_assoc];congr 1;funext n;cases n<;>rfl);.rfl)|_=>rfl
def Ap(a:List u):Prop:=∃ops i rest r,a=V ops (i::rest)::r
structure AK(ok:iO)(P:au)(b:U)(T:List u->List u->Prop)(S S':List U->Z->Prop):Prop where
 op:∀{ops i rest r td'},T (V ops (i::rest)::r) td'->∃ops' rest' r',td'=V ops' (i::rest')::r'/\ops'[i]?=ops[i]?/\(∀o tm,ops[i]?=some o->aQ o (yielded ops' tm)=aQ o (yielded ops tm))/\T (V ops rest::r) (V ops' rest'::r')
 code:∀{td td'},T td td'->¬Ap td->∀a,(∃g g',(rj ok P [b.at a td]->rj ok P [b.at a td'])/\own P [b.at a td]=pure [g]/\own P [b.at a td']=pure [g']/\((∃td1 td1',g=b.at a td1/\g'=b.at a td1'/\T td1 td1')\/∀w,Safe ok P S [g] w->S' [g'] w))\/(∃(q:aH)(f f':Nat->List u),(rj ok P [b.at a td]->rj ok P [b.at a td'])/\(own P [b.at a td]=choose q>>=λt=>pure [b.at a<|f t])/\(own P [b.at a td']=choose q>>=λt=>pure [b.at a<|f' t])/\q.forced=false/\(∀t,q.cut t=t)/\∀t,∃t',T (f t') (f' t))\/(∃h,own P [b.at a td]=.halt h)\/(∀w,Safe ok P S [b.at a td] w->S' [b.at a td'] w)
 stop:∀{l w},S l w->∃f,l=[f]/\∀a td td',T td td'->f≠b.at a td
 inv:∀l w τ d,S' l w->S' l (w.re τ d)
section
variable{b:U}{T:List u->List u->Prop}{S S':List U->Z->Prop}
def Iv(P:au)(b:U)(T:List u->List u->Prop)(l i:List U):Prop:=∀h g w1 f,(own P l).runT P h #[]=(.ok g w1,f)->∃d e c a,g=d++[b.at e c]/\T c a/\(d≠[]->Ap c)/\(own P i).runT P h #[]=(.ok (d++[b.at e a]) w1,f)
def Hs(b:U)(a:Act)(ops:Array ax)(i:Nat)(rest:List Nat)(r:List u):own P [b.at a<|V ops (i::rest)::r]=match ops[i]? with|I=>pure [b.at a<|V ops rest::r]|E o=>if aQ o (yielded ops a.tmps)then execOp a.eval o>>=λn=>match n with|.value v=>pure [b.at (a.put o.dst v)<|V ops rest::r]|.skip=>pure [b.at (a.put o.dst an)<|V ops rest::r]|.enter f d=>pure [ay P f d aD,b.at a<|V ops (i::rest)::r]|_=>stuck ""else pure [b.at (a.put o.dst an)<|V ops rest::r]:=by have e:=Frame.eval_at' b a<|V ops (i::rest)::r;have c:=λv=>bD b a ops i rest r v;unfold own;rw[<-e];show(match ops[i]? with|I=>pure [(b.at a<|V ops (i::rest)::r).finish an]|E o=>_)=_;cases g:ops[i]? with|none=>simp only[c,g,Option.bind_none];rfl|some o=>simp only[c,g,bT];rfl
def aeq(W:AK ok P b T S S')(q:T h l)(w:Ap h)(a:Act):Iv P b T [b.at a h] [b.at a l]:=by obtain⟨ops,i,rest,r,rfl⟩:=w;obtain⟨p,j,D,rfl,e1,e2,d⟩:=W.op q;intro y F w1 C c;rw[Hs]at c⊢;rw[e1];cases g:ops[i]? with|none=>rw[g]at c;simp only at c⊢;cases c;exact⟨[],a,_,_,rfl,d,by simp,rfl⟩|some o=>rw[g]at c;simp only at c⊢;rw[e2 o a.tmps g];split at c;(.rename_i e;rw[if_pos e];rw[oA]at c⊢;generalize(execOp a.eval o).runT P y #[]=B at c⊢;obtain⟨x,t⟩:=B;cases x with|halt x s=>cases c|ok n s=>cases n with|value v=>cases c;exact⟨[],_,_,_,rfl,d,by simp,rfl⟩|skip=>cases c;exact⟨[],_,_,_,rfl,d,by simp,rfl⟩|enter f k=>cases c;exact⟨[_],_,_,_,rfl,q,λ_=>⟨_,_,_,_,rfl⟩,rfl⟩|_=>cases c);.rename_i e;rw[if_neg e];cases c;exact⟨[],_,_,_,rfl,d,by simp,rfl⟩
def afY(W:AK ok P b T S S')(q:T h l)(s:Ap h)(a:Act)(fr:U)(X:List U):Iv P b T (fr::(X++[b.at a h]))<|fr::(X++[b.at a l]):=by intro p D w1 B d;cases t:fr.mode with|run=>rw[age t]at d⊢;rw[oA]at d⊢;generalize(own P [fr]).runT P p #[]=j at d⊢;obtain⟨x,g⟩:=j;(cases x with|halt x e=>cases d|ok y e=>cases d;exact⟨y++X,a,h,l,by simp,q,λ_=>s,by simp<;>rfl⟩)|panicking c=>unfold own at d;simp_all|returning=>unfold own at d⊢;simp only[t]at d⊢;obtain⟨ops,i,rest,r,rfl⟩:=s;obtain⟨w,o,C,rfl,e1,e2,k⟩:=W.op q;cases X with|nil=>simp only[bE]at d⊢;(cases n:P.funcs[fr.fn]? with|none=>simp_all|some f=>rw[n]at d;simp only at d⊢;rw[oA]at d⊢;generalize(results f fr.tmps).runT P p #[]=j at d⊢;obtain⟨x,g⟩:=j;cases x with|halt x e=>cases d|ok v e=>simp only[bD,e1]at d⊢;cases d;exact⟨[],_,_,_,rfl,k,by simp,rfl⟩)|cons c X=>simp only[bU]at d⊢;cases n:P.funcs[fr.fn]? with|none=>simp_all|some f=>rw[n]at d;simp only at d⊢;rw[oA]at d⊢;generalize(results f fr.tmps).runT P p #[]=j at d⊢;obtain⟨x,g⟩:=j;cases x with|halt x e=>cases d|ok v e=>cases d;exact⟨c.finish v::X,a,_,_,rfl,q,λ_=>⟨_,_,_,_,rfl⟩,rfl⟩
def CU(W:AK ok P b T S S'){l:List U}{w:Z}(hs:Safe ok P S l w):∀X a s j,l=X++[b.at a s]->T s j->(X≠[]->Ap s)->Safe ok P S' (X++[b.at a j]) w:=by induction hs with|stop h=>intro X a s j e v _;obtain⟨f,e2,J⟩:=W.stop h;rw[e2]at e;(cases X with|nil=>simp only[bE,List.cons.injEq,and_true]at e;exact absurd e<|J a s j v|cons x X=>simp at e)|@step l w hd h hs G=>intro X a s j e v hX;subst e;(have done:Iv P b T (X++[b.at a s]) (X++[b.at a j])->rj ok P (X++[b.at a j])->Safe ok P S' (X++[b.at a j]) w:=by intro sm L;refine .step L (λc d=>?_) λc d Q w' F p=>?_;(.obtain⟨l1,w1,F,p⟩:=h c d;obtain⟨X1,a1,t,n,_,_,_,h4⟩:=sm _ _ _ _ p;grind);.obtain⟨l1,w1,ac,C⟩:=h c d;obtain⟨X1,a1,t,n,h1,h2,h3,h4⟩:=sm _ _ _ _ C;rw[h4]at p;cases p;exact G c d _ _ _ C X1 a1 t n h1 h2 h3);cases X with|cons fr X=>exact done (afY W v (hX<|by simp) a fr X) hd|nil=>by_cases y:Ap s;(.refine done (aeq W v y a) ?_;obtain⟨ops,i,rest,r,rfl⟩:=y;obtain⟨aa,M,r',rfl,e1,e2,B⟩:=W.op v;intro hm it k e;cases e;intro o y;rw[e1]at y;exact hd rfl (V ops<|i::rest) r rfl o y);.simp only[bE]at hd h hs G⊢;rcases W.code v y a with⟨g,g',e0,e1,e2,D⟩|⟨q,f,f',e0,e1,e2,hq,hc,J⟩|⟨x,e1⟩|D;(. (have r1:∀c d,(own P [b.at a s]).runT P (w.re c d) #[]=(.ok [g]<|w.re c d,#[]):=λc d=>by rw[e1];rfl);(have r2:∀c d,(own P [b.at a j]).runT P (w.re c d) #[]=(.ok [g']<|w.re c d,#[]):=λc d=>by rw[e2];rfl);refine .step (e0 hd) (λc d=>⟨_,_,_,r2 c d⟩) λc d Q w' F p=>?_;rw[r2]at p;cases p;rcases D with⟨t,n,rfl,rfl,H⟩|D;(.exact G c d _ _ _ (r1 c d) [] a t n rfl H<|by simp);.exact .stop<|D _<|hs c d _ _ _<|r1 c d);(. (have r1:∀c d,(own P [b.at a s]).runT P (w.re c d) #[]=(.ok [b.at a<|f<|c d q]<|w.re c<|d+1,#[]):=λc d=>by rw[e1,oA];simp only[choose,Sem.runT,hq,bF,if_false,hc];rfl);(have r2:∀c d,(own P [b.at a j]).runT P (w.re c d) #[]=(.ok [b.at a<|f'<|c d q]<|w.re c<|d+1,#[]):=λc d=>by rw[e2,oA];simp only[choose,Sem.runT,hq,bF,if_false,hc];rfl);refine .step (e0 hd) (λc d=>⟨_,_,_,r2 c d⟩) λc d Q w' F p=>?_;rw[r2]at p;cases p;obtain⟨R,B⟩:=J<|c d q;have:=G (λ_ _=>R) d _ _ _ (r1 (λ_ _=>R) d) [] a _ _ rfl B (by simp);exact Safe.re W.inv this c<|d+1);(.obtain⟨l1,w1,F,p⟩:=h w.tape w.drawn;rw[e1]at p;cases p);.exact .stop<|D w<|.step hd h hs
end
end
section
open Go.Conc(G)
variable{ok:iO}{ρ ρ':iI}{P:au}
def xw(b:U)(k:List u)(e:aK)(a:Act)(f:U):Prop:=match e with|az=>f=b.at a k|bm id=>∃c,exitTo id k=E c/\f=b.at a c|aM=>∃todo,f={b.at a todo with mode:=.returning}|_=>False
def Dp(a:List Nat):aK->Prop|az|aM=>True|bm id=>id∈a|_=>False
def yw:u:=z<|bA ""
def dead:List Nat->List u|[]=>[yw]|id::a=>yw::aI id::dead a
def No(id:Nat)(a k:List u):exitTo id (a++k)=match exitTo id a with|E r=>E (r++k)|I=>exitTo id k:=by induction a with|nil=>rfl|cons it a b=>cases it with|inBlock i=>simp only[bU,exitTo];grind|_=>exact b
def BK{id:Nat}:∀{a:List Nat}{r:List u},exitTo id (dead a)=E r->id∈a/\∃pre b,dead a=pre++aI id::r/\r=dead b:=by intro a;induction a with|nil=>intro r h;cases h|cons i a f=>intro r h;simp only[dead,yw,exitTo]at h;split at h;(.rename_i e;simp only[beq_iff_eq]at e;cases h;subst e;exact⟨by simp,[yw],a,rfl,rfl⟩);.obtain⟨g,pre,b,d,c⟩:=f h;exact⟨by simp[g],yw::aI i::pre,b,by simp[dead,d],c⟩
def VP{id:Nat}(h:id∈X):∃r,exitTo id (dead X)=E r:=by induction X with|nil=>cases h|cons i X a=>simp only[dead,yw,exitTo];by_cases e:i=id;(.simp_all);grind
def KX(a:List Nat):∃r,dead a=yw::r:=by cases a<;>exact⟨_,rfl⟩
def wj{b:U}{a c:Act}{k:List u}(h:b.at a k=b.at c l):a=c/\k=l:=by obtain⟨t,d⟩:=a;obtain⟨e,f⟩:=c;simp only[Frame.at,Frame.mk.injEq]at h;grind
def BB{b:U}{a c:Act}{k:List u}:b.at a k≠{b.at c l with mode:=.returning}:=by intro h;have:=congrArg Frame.mode h;cases this
section
variable{b:U}{k:List u}{ids:List Nat}{Q:aK->Act->Z->Prop}
def rW(b:U)(k:List u)(Q:aK->Act->Z->Prop):List U->Z->Prop:=λl w=>∃e a f,l=[f]/\Q e a w/\xw b k e a f
def KW(b:U)(a:Act)(r:List u):own P [b.at a<|yw::r]=stuck "":=rfl
def Js{a:Act}{w:Z}(h:Safe ok P (rW b (dead ids) Q) [b.at a<|dead ids] w):Q az a w:=by obtain⟨r,i⟩:=KX ids;cases h with|stop h=>obtain⟨e,v,f,l,n,d⟩:=h;cases l;(cases e with|normal=>obtain⟨rfl,_⟩:=wj d;exact n|exit id=>obtain⟨s,p,j⟩:=d;obtain⟨_,e2⟩:=wj j;obtain⟨_,pre,q,o,_⟩:=BK p;have:=congrArg bG o;grind|ret=>obtain⟨todo,g⟩:=d;exact absurd g BB|_=>exact d.elim)|step _ h _=>obtain⟨y,t,x,c⟩:=h w.tape w.drawn;rw[i,KW]at c;cases c
def Q6{id:Nat}{a:Act}{w:Z}{r:List u}(y:exitTo id (dead ids)=E r)(h:Safe ok P (rW b (dead ids) Q) [b.at a r] w):Q (bm id) a w:=by obtain⟨_,pre,t,o,rfl⟩:=BK y;have d:=congrArg bG o;simp at d;cases h with|stop h=>obtain⟨e,F,f,v,H,j⟩:=h;cases v;(cases e with|normal=>obtain⟨_,e2⟩:=wj j;grind|exit q=>obtain⟨C,B,p⟩:=j;obtain⟨rfl,rfl⟩:=wj p;obtain⟨_,c,x,n,_⟩:=BK B;rw[o]at n;(have l:pre.length=c.length:=by grind);have:=(List.append_inj n l).2;grind|ret=>obtain⟨todo,g⟩:=j;exact absurd g BB|_=>exact j.elim)|step _ h _=>obtain⟨D,G,J,i⟩:=h w.tape w.drawn;obtain⟨r,s⟩:=KX t;rw[s,KW]at i;cases i
def abC{a:Act}{j:List u}{w:Z}(h:Safe ok P (rW b j Q) [{b.at a l with mode:=.returning}] w):Q aM a w:=by cases h with|stop h=>obtain⟨e,o,f,n,y,c⟩:=h;cases n;(cases e with|normal=>exact absurd c.symm BB|exit id=>obtain⟨v,_,p⟩:=c;exact absurd p.symm BB|ret=>obtain⟨todo,g⟩:=c;have e1:=congrArg Frame.tmps g;have e2:=congrArg Frame.defers g;obtain⟨t,d⟩:=a;obtain⟨q,x⟩:=o;simp only[Frame.at]at e1 e2;grind|_=>exact c.elim)|step _ h _=>obtain⟨s,r,B,i⟩:=h w.tape w.drawn;unfold own at i;simp_all
def J4(hk:∀id∈ids,∃s,exitTo id k=E s)(X:∀e a w M d,Q e a w->Q e a (w.re M d)):AK ok P b (λG p=>∃j,j≠[]/\G=j++dead ids/\p=j++k) (rW b (dead ids) Q)<|rW b k Q:=by
 have n:∀(j:List u)(a:Act),(∃C q,b.at a (j++dead ids)=b.at a C/\b.at a (j++k)=b.at a q/\∃j,j≠[]/\C=j++dead ids/\q=j++k)\/∀w,Safe ok P (rW b (dead ids) Q) [b.at a<|j++dead ids] w->rW b k Q [b.at a<|j++k] w:=by intro j a;cases j with|nil=>exact ah λw h=>⟨az,a,_,rfl,Js h,rfl⟩|cons it j=>exact Y ⟨_,_,rfl,rfl,it::j,by simp,rfl,rfl⟩
 have o:∀(it:u)(j:List u)(a:Act),rj ok P [b.at a<|(it::j)++dead ids]->rj ok P [b.at a<|(it::j)++k]:=by intro it j a h hm aa s e;cases e;exact h rfl it _ rfl
 refine⟨?_,?_,?_,?_⟩;.rintro ops i rest r p⟨j,F,e,rfl⟩;cases j with|nil=>grind|cons it j=>grind
 .rintro G p⟨j,F,rfl,rfl⟩ho a;cases j with|nil=>exact absurd rfl F|cons it j=>cases it with|code c=>(cases c with|skip=>exact Y ⟨_,_,o _ _ _,rfl,rfl,n j a⟩|ret=>exact Y ⟨_,_,o _ _ _,rfl,rfl,ah λw h=>⟨aM,a,_,rfl,abC h,_,rfl⟩⟩|seq x y=>exact Y ⟨_,_,o _ _ _,rfl,rfl,n (z x::z y::j) a⟩|block id x=>exact Y ⟨_,_,o _ _ _,rfl,rfl,n (z x::aI id::j) a⟩|loop x=>exact Y ⟨_,_,o _ _ _,rfl,rfl,n (z x::aX x::j) a⟩|cond c x y=>(have e1:∀kk,own P [b.at a<|(z (aN c x y)::j)++kk]=match a.eval c with|ak t=>pure [b.at a<|(z (if t then x else y)::j)++kk]|_=>stuck "":=by intro kk;rw[<-bV b a ((z (aN c x y)::j)++kk) c];rfl);rw[e1,e1];(cases a.eval c with|bool t=>exact Y ⟨_,_,o _ _ _,rfl,rfl,n (z (if t then x else y)::j) a⟩|_=>exact ah<|ah<|Y ⟨_,rfl⟩)|exit id=>have e1:∀kk,own P [b.at a<|(z (bn id)::j)++kk]=match exitTo id (j++kk)with|E s=>pure [b.at a s]|I=>stuck "":=λkk=>rfl;rw[e1,e1,No,No];(cases exitTo id j with|some r=>exact Y ⟨_,_,o _ _ _,rfl,rfl,n r a⟩|none=>simp only[];cases R:exitTo id (dead ids)with|none=>exact ah<|ah<|Y ⟨_,rfl⟩|some r=>obtain⟨kU,_⟩:=BK R;obtain⟨s,D⟩:=hk id kU;rw[D];exact Y ⟨_,_,o _ _ _,rfl,rfl,ah λw h=>⟨bm id,a,_,rfl,Q6 R h,s,D,rfl⟩⟩)|region id ops B=>(cases B with|false=>exact Y ⟨_,_,o _ _ _,rfl,rfl,n (V ops (bq ops.size)::j) a⟩|true=>refine ah<|Y ⟨.order b.fn id,λt=>(V ops (bB (P.follows aU) ops t)::j)++dead ids,λt=>(V ops (bB (P.follows aU) ops t)::j)++k,o _ _ _,rfl,rfl,rfl,λ_=>rfl,λt=>⟨t,?_⟩⟩;grind)|_=>exact ah<|ah<|Y ⟨_,rfl⟩)|inBlock id=>exact Y ⟨_,_,o _ _ _,rfl,rfl,n j a⟩|inLoop x=>exact Y ⟨_,_,o _ _ _,rfl,rfl,n (z x::aX x::j) a⟩|inRegion ops l=>(cases l with|nil=>exact Y ⟨_,_,o _ _ _,rfl,rfl,n j a⟩|cons i rest=>exact absurd ⟨_,_,_,_,rfl⟩ ho)|_=>exact ah<|ah<|Y ⟨_,rfl⟩
 .rintro l w⟨e,J,f,rfl,_,v⟩;refine⟨f,rfl,?_⟩;rintro a G p⟨j,F,rfl,rfl⟩rfl;have L:=List.length_pos_iff.2 F;cases e with|normal=>obtain⟨_,e2⟩:=wj v;simp_all|exit id=>obtain⟨s,T,S⟩:=v;obtain⟨_,e2⟩:=wj S;obtain⟨_,pre,js,g3,_⟩:=BK T;have H:=congrArg bG e2;grind|ret=>obtain⟨todo,g⟩:=v;exact absurd g BB|_=>exact v.elim
 .rintro l w M d⟨e,J,f,H,h2,v⟩;exact⟨e,J,f,H,X _ _ _ _ _ h2,v⟩
end
section
variable{b:U}{k:List u}{Q:Act->Z->Prop}{ops:Array ax}{n:Nat}{tail:List Nat}{id:Nat}
inductive G0(ops:Array ax)(n:Nat)(tail:List Nat)(id:Nat)(k:List u):List u->List u->Prop|start:G0 ops n tail id k (z (aA id (ops.extract 0 n) true)::dead [])<|z (aA id ops true)::k|inside(s:List Nat)(hs:∀i∈s,i<n):G0 ops n tail id k (V (ops.extract 0 n) s::dead [])<|V ops (s++tail)::k
def Kx(C:uF (P.follows aU) ops n tail)(S:n<=ops.size)(M:∀(i:Nat)o j c,i<n->ops[i]?=E o->o.guard=E (j,c)->j<n)(hQ:∀a w R d,Q a w->Q a (w.re R d)):AK ok P b (G0 ops n tail id k) (rW b (dead []) λe a w=>e=az/\Q a w) λl w=>∃y,l=[b.at y<|V ops tail::k]/\Q y w:=by
 have g:∀i,i<n->(ops.extract 0 n)[i]?=ops[i]?:=by grind
 refine⟨?_,?_,?_,?_⟩;.rintro v i rest r q h;generalize e:V v (i::rest)::r=F at h;cases h with|start=>cases e|inside s hs=>simp only[List.cons.injEq,Item.inRegion.injEq]at e;obtain⟨⟨rfl,rfl⟩,rfl⟩:=e;have hi:=hs i (by simp);refine⟨ops,rest++tail,k,rfl,(g i hi).symm,λo T x=>?_,.inside rest λj B=>hs j (by simp[B])⟩;rw[g i hi]at x;unfold aQ;cases J:o.guard with|none=>rfl|some p=>obtain⟨j,c⟩:=p;have B:=M i o j c hi x J;simp only[yielded];rw[g j B]
 .intro F q h x a;cases h with|start=>refine ah<|Y ⟨.order b.fn id,λt=>V (ops.extract 0 n) (bB (P.follows aU) (ops.extract 0 n) t)::dead [],λt=>V ops (bB (P.follows aU) ops t)::k,(λ_ _ it k e=>by cases e;trivial),rfl,rfl,rfl,λ_=>rfl,λt=>?_⟩;obtain⟨H,e,G⟩:=Ig C t;refine⟨H,?_⟩;dsimp only;rw[e];exact .inside _ G|inside s hs=>cases s with|cons i rest=>exact absurd ⟨_,_,_,_,rfl⟩ x|nil=>refine ah<|ah<|ah λw h=>⟨a,rfl,?_⟩;cases h with|stop h=>obtain⟨e,y,f,L,⟨rfl,X⟩,D⟩:=h;cases L;obtain⟨_,e2⟩:=wj D;cases e2|step _ _ hs=>have:=hs w.tape w.drawn [b.at a<|dead []] (w.re w.tape w.drawn) #[] rfl;rw[Hg]at this;exact(Js this).2
 .rintro l w⟨e,y,f,rfl,⟨rfl,_⟩,D⟩;refine⟨f,rfl,?_⟩;rintro a F q h rfl;obtain⟨_,e2⟩:=wj D;cases h<;>cases e2
 grind
end
end
section
open Go.Conc Go.ConcN
variable{ok:iO}{ρ ρ':iI}{P:au}{S:List U->Z->Prop}
structure vY(ρ:iI)(n:Nat)(ρ':iI)(n':Nat):Prop where
 le:ρ.le ρ'
 new:∀b b',ρ' b b'->ρ b b'\/n<=b'
 size:n<=n'
def vY.refl(ρ:iI)(n:Nat):vY ρ n ρ n:=⟨iI.le.refl _,λ_ _ h=>Y h,bu _⟩
def vY.trans{c a d:iI}{n1:Nat}(h:vY c n1 a r)(g:vY a r d D):vY c n1 d D:=⟨h.le.trans g.le,λb e x=>(g.new b e x).elim (h.new b e) λy=>ah (bH h.size y),bH h.size g.size⟩
def Reach(ok:iO)(P:au)(l:List U)(wh:Z)(Stop:List U->Z->Prop):Prop:=∀(ρ:iI)(gs:Array aY)(w:Z)(sl:Option<|Nat×Nat)(t:Trace)(q:Nat->Nat)(c:Loc->Prop),qX ok P ρ l wh gs w t q c->∃N ρ' d e f g i a h b,runNT P N (crowd gs w sl) t=(.next<|crowd d e f,g)/\qX ok P ρ' h b d e g i a/\vY ρ w.heap.size ρ' e.heap.size/\Stop h b
def Reach.stop{l:List U}{wh:Z}(h:S l wh):Reach ok P l wh S:=λρ gs w sl t q a b=>⟨0,ρ,gs,w,sl,t,q,a,l,wh,rfl,b,vY.refl _ _,h⟩
def Reach.bind{l:List U}{wh:Z}{v:List U->Z->Prop}(h:Reach ok P l wh S)(hk:∀s a,S s a->Reach ok P s a v):Reach ok P l wh v:=by intro ρ gs w sl t q x H;obtain⟨N,y,F,w1,r,t1,q1,D,B,g,r1,f,o,e⟩:=h _ _ _ sl _ _ _ H;obtain⟨M,b,j,C,i,t2,q2,k,G,n,r2,c,d,p⟩:=hk B g e _ _ _ r _ _ _ f;refine⟨N+M,b,j,C,i,t2,q2,k,G,n,?_,c,o.trans d,p⟩;rw[runNT_add,r1];exact r2
def Reach.mono{l:List U}{wh:Z}{S':List U->Z->Prop}(h:Reach ok P l wh S)(hk:∀b a,S b a->S' b a):Reach ok P l wh S':=h.bind λb a x=>.stop (hk b a x)
def Reach.given{l:List U}{wh:Z}(h:(∀f∈l,f.defers=[]/\f.kind=aD)->sQ ok P l wh->Reach ok P l wh S):Reach ok P l wh S:=by intro ρ gs w sl t q b a;refine h (λf c=>?_) a.self _ _ _ sl _ _ _ a;obtain⟨e,la,g,d,_⟩:=a.self;exact d.ghost f c
def Reach.EG(F:Fits ok P)(B:mM ok P)(base:List U){l:List U}{wh:Z}(ne:l≠[])(hs:Safe ok P S l wh):Reach ok P (l++base) wh λp h=>∃b,p=b++base/\S b h:=by intro ρ gs w sl t q a o;obtain⟨N,e,g,w1,c,t1,q1,b,f,r1,d,j,_,i,k,n,_⟩:=agM F B base hs ne o;exact⟨N,e,g,w1,c,t1,q1,a,_,f,r1,d,⟨j,k,n⟩,b,rfl,i⟩
def qX.re{l:List U}{wh:Z}{gs:Array aY}{w:Z}{t:Trace}{q:Nat->Nat}{a:Loc->Prop}(h:qX ok P ρ l wh gs w t q a)(b:Nat->aH->Nat)(d:Nat):qX ok P ρ l (wh.re b d) gs w t q a:={h with qJ:=h.qJ.xK b d}
def Reach.re{l:List U}{wh:Z}(h:Reach ok P l wh S)(c:Nat->aH->Nat)(d:Nat):Reach ok P l (wh.re c d) S:=by intro ρ gs w sl t q a b;exact h _ _ _ sl _ _ _<|b.re wh.tape wh.drawn
def Reach.own(F:Fits ok P)(B:mM ok P){l l1:List U}{wh wh1:Z}(ne:l≠[])(hd:rj ok P l)(h:∀b d,∃a f i,(own P l).runT P (wh.re b d) #[]=(.ok l1<|wh1.re a f,i))(hk:Reach ok P (l1++v) wh1 S):Reach ok P (l++v) wh S:=by
 have hs:Safe ok P (λg c=>g=l1/\∃b d,c=wh1.re b d) l wh:=by refine .step hd (λb d=>?_) λb d g p i j=>?_;(.obtain⟨a,f,i,e⟩:=h b d;grind);.obtain⟨a,f,n,e⟩:=h b d;rw[e]at j;cases j;exact .stop ⟨rfl,a,f,rfl⟩
 refine(Reach.EG F B v ne hs).bind λg c k=>?_;obtain⟨o,rfl,rfl,b,d,rfl⟩:=k;exact hk.re b d
def Reach.pure(F:Fits ok P)(B:mM ok P){fr fr1:U}{wh:Z}(h:Rel.own P [fr]=Pure.pure [fr1])(hd:rj ok P [fr])(hk:Reach ok P (fr1::v) wh S):Reach ok P (fr::v) wh S:=Reach.own F B (by simp) hd (λa d=>⟨a,d,#[],by rw[h];rfl⟩) hk
def jH(ok:iO)(P:au)(d:List Nat)(c:aE)(Q:aK->Act->Z->Prop)(a:Act)(wh:Z):Prop:=∀(b:U)(k:List u)(h:List U),(∃fn,P.funcs[b.fn]?=E fn)->(∀id∈d,∃l,exitTo id k=E l)->Reach ok P (b.at a (z c::k)::h) wh (λj g=>∃e i f,j=f::h/\Q e i g/\xw b k e i f)
section
variable{ids:List Nat}{Q Q':aK->Act->Z->Prop}{a:Act}{wh:Z}{c x y:aE}
def wP(h:jH ok P ids c Q a wh)(i:∀e a w,Q e a w->Q' e a w):jH ok P ids c Q' a wh:=λb k l d hk=>(h b k l d hk).mono λq g⟨e,j,f,n,p,o⟩=>⟨e,j,f,n,i _ _ _ p,o⟩
def oP(h:jH ok P ids c Q a wh)(e:Nat->aH->Nat)(d:Nat):jH ok P ids c Q a<|wh.re e d:=λb k g f hk=>(h b k g f hk).re e d
def zr(ids:List Nat):∀i∈dead ids,zM ok P i:=by induction ids with|nil=>intro i hi;simp only[dead,bI]at hi;subst hi;exact trivial|cons id ids b=>simp only[dead];exact aV.2 ⟨trivial,aV.2 ⟨trivial,b⟩⟩
def Fp(F:Fits ok P)(C:oq ok P)(T:oN ok P c)(hQ:∀e a w i d,Q e a w->Q e a (w.re i d))(X:∀e a w,Q e a w->Dp ids e)(h:∀i d,c.wp P Q a<|wh.re i d){b:U}(R:∃fn,P.funcs[b.fn]?=E fn)(k:sQ ok P [b.at a<|z c::dead ids] wh):Safe ok P (rW b (dead ids) Q) [b.at a<|z c::dead ids] wh:=by
 have s:Ib P (rW b (dead ids) Q) [b.at a<|z c::dead ids] wh:=by intro i d;obtain⟨e,v,t,G,g⟩:=h i d b (dead ids) [iF];have q:=X _ _ _ G;(have j:∀{f:U},xw b (dead ids) e v f->Steps P (lone (b.at a<|z c::dead ids) [iF]<|wh.re i d) (lone f [iF] t)->∃n r t,runN P n (vm [b.at a<|z c::dead ids]<|wh.re i d)=.next (lone r [iF] t)/\rW b (dead ids) Q [r] t:=by rintro f M⟨n,L⟩;exact⟨n,f,t,L,e,v,f,rfl,G,M⟩);cases e with|normal=>exact j rfl g|exit id=>obtain⟨B,p⟩:=VP<|show id∈ids from q;exact j ⟨B,p,rfl⟩<|g B p|ret=>obtain⟨todo,hs⟩:=g;exact j ⟨todo,rfl⟩ hs|_=>exact q.elim
 refine L1 F C ?_ ?_ (sQ.self (by simpa using k) ?_<|by simp) s;.rintro l w i d _⟨e,v,f,D,H,o⟩;exact⟨e,v,f,D,hQ _ _ _ _ _ H,o⟩
 .rintro fr w⟨e,v,f,D,H,o⟩;cases D;cases e with|normal=>cases o;exact Y rfl|exit id=>obtain⟨B,_,rfl⟩:=o;exact Y rfl|ret=>obtain⟨todo,rfl⟩:=o;exact ah rfl|_=>exact o.elim
 .intro f J;simp only[bI]at J;subst J;exact⟨R,aV.2 ⟨T,zr ids⟩,Y rfl⟩
def Di{b:U}{d:List u}(e:∀i∈d,FR i)(h:sQ ok P (b.at a l::v) wh):sQ ok P [b.at a d] wh:=by obtain⟨g,la,k,j,o,n⟩:=h;cases j with|@cons _ p h f _ _ hs=>have q:m7 ok P g (b.at a d) {p with todo:=d,mode:=.run}:=⟨h.fn,rfl,e,h.tmps,rfl,h.round,h.tA,h.defers,h.kind,h.early⟩;exact⟨g,_,k,.cons q ⟨f.defers,f.kind⟩ .nil,o,n⟩
def S0(F:Fits ok P)(C:oq ok P)(l:oN ok P c)(j:∀e a w g d,Q e a w->Q e a (w.re g d))(n:∀e a w,Q e a w->Dp ids e)(h:∀g d,c.wp P Q a<|wh.re g d){b:U}{k:List u}(q:∃fn,P.funcs[b.fn]?=E fn)(hk:∀id∈ids,∃o,exitTo id k=E o)(f:sQ ok P (b.at a (z c::k)::v) wh):Safe ok P (rW b k Q) [b.at a<|z c::k] wh:=by have p:=Fp F C l j n h q<|Di (aV.2 ⟨trivial,λi hi=>(zr (ok:=ok) (P:=P) ids i hi).flat⟩) f;exact CU (J4 hk j) p [] a (z c::dead ids) (z c::k) rfl ⟨[z c],by simp,rfl,rfl⟩<|by simp
def aaE(F:Fits ok P)(C:oq ok P){id:Nat}{ops:Array ax}{n:Nat}{tail:List Nat}{R:Act->Z->Prop}(hcut:uF (P.follows aU) ops n tail)(H:n<=ops.size)(D:∀(i:Nat)o j l,i<n->ops[i]?=E o->o.guard=E (j,l)->j<n)(r:∀(i:Nat)o,i<n->ops[i]?=E o->mr ok P o)(t:∀a w q d,R a w->R a (w.re q d))(h:∀q d,(aA id (ops.extract 0 n) O).wp P (λe a w=>e=az/\R a w) a<|wh.re q d){b:U}{k:List u}{cs:List U}(B:∃fn,P.funcs[b.fn]?=E fn){td:List u}(f:sQ ok P (b.at a td::cs) wh):Safe ok P (λG L=>∃s,G=[b.at s<|V ops tail::k]/\R s L) [b.at a<|z (aA id ops O)::k] wh:=by
 have g:oN ok P<|aA id (ops.extract 0 n) O:=by intro o v;obtain⟨i,hi,rfl⟩:=bX.1 v;rw[bY];simp at hi;exact r i _ (by omega) (by simp)
 have J:=Fp F C g (λe a w q d p=>⟨p.1,t _ _ _ _ p.2⟩) (λe a w p=>by rw[p.1];exact trivial) h B<|Di (aV.2 ⟨trivial,λi hi=>(zr (ok:=ok) (P:=P) [] i hi).flat⟩) f;exact CU (Kx hcut H D t) J [] a _ _ rfl .start<|by simp
def uS(F:Fits ok P)(C:oq ok P)(r:oN ok P c)(l:∀e a w j d,Q e a w->Q e a (w.re j d))(n:∀e a w,Q e a w->Dp ids e)(h:∀j d,c.wp P Q a<|wh.re j d):jH ok P ids c Q a wh:=by intro b k q s hk;refine Reach.given λp g=>?_;have t:=Fp F C r l n h s<|Di (aV.2 ⟨trivial,λi hi=>(zr (ok:=ok) (P:=P) ids i hi).flat⟩) g;have v:=CU (J4 hk l) t [] a (z c::dead ids) (z c::k) rfl ⟨[z c],by simp,rfl,rfl⟩ (by simp);refine(Reach.EG F C.jS q (by simp) v).mono ?_;rintro H o⟨J,rfl,e,B,f,rfl,G,D⟩;grind
def GI(F:Fits ok P)(C:oq ok P){id:Nat}{ops:Array ax}{n:Nat}{tail:List Nat}{R:Act->Z->Prop}(hcut:uF (P.follows aU) ops n tail)(X:n<=ops.size)(hg:∀(i:Nat)o j r,i<n->ops[i]?=E o->o.guard=E (j,r)->j<n)(B:∀(i:Nat)o,i<n->ops[i]?=E o->mr ok P o)(G:∀a w t d,R a w->R a (w.re t d))(h:∀t d,(aA id (ops.extract 0 n) O).wp P (λe a w=>e=az/\R a w) a<|wh.re t d)(hk:∀b k s g J,(∃fn,P.funcs[b.fn]?=E fn)->(∀id∈ids,∃T,exitTo id k=E T)->R g J->Reach ok P (b.at g (V ops tail::k)::s) J (λD l=>∃e g f,D=f::s/\Q e g l/\xw b k e g f)):jH ok P ids (aA id ops O) Q a wh:=by
 intro b k s H kU;refine Reach.given λaa q=>?_;have p:oN ok P<|aA id (ops.extract 0 n) O:=by intro o L;obtain⟨i,hi,rfl⟩:=bX.1 L;rw[bY];simp at hi;exact B i _ (by omega) (by simp)
 have M:=Fp F C p (λe a w t d v=>⟨v.1,G _ _ _ _ v.2⟩) (λe a w v=>by rw[v.1];exact trivial) h H<|Di (aV.2 ⟨trivial,λi hi=>(zr (ok:=ok) (P:=P) [] i hi).flat⟩) q;have h2:=CU (Kx (k:=k) hcut X hg G) M [] a _ _ rfl .start (by simp);refine(Reach.EG F C.jS s (by simp) h2).bind ?_;rintro D l⟨l1,rfl,g,rfl,h4⟩;exact hk b k s g l H kU h4
def VC(id:Nat)(c:aE)(k:List u):exitTo id (z c::k)=exitTo id k:=rfl
def Y3(id:Nat)(c:aE)(k:List u):exitTo id (aX c::k)=exitTo id k:=rfl
def xw.pass{b:U}{i:u}{k:List u}(hi:∀id,exitTo id (i::k)=exitTo id k){e:aK}{a:Act}{f:U}(l:e≠az)(h:xw b (i::k) e a f):xw b k e a f:=by cases e with|normal=>grind|exit id=>obtain⟨g,j,d⟩:=h;exact⟨g,by grind,d⟩|_=>exact h
def lz{b:U}{a:Act}{it:u}{k:List u}(h:Fa ok P it):rj ok P [b.at a<|it::k]:=λ_ d f e=>by cases e;exact h
def kz(F:Fits ok P)(B:mM ok P)(h:jH ok P ids x (Exit.then (jH ok P ids y Q) Q) a wh):jH ok P ids (ae x y) Q a wh:=by intro b k i g hk;refine Reach.pure F B rfl (lz trivial) ?_;refine(h b (z y::k) i g hk).bind λp l⟨e,n,f,o,j,d⟩=>?_;subst o;cases e with|normal=>cases d;exact j b k i g hk|_=>exact .stop ⟨_,n,f,rfl,j,d.pass (VC · y k)<|by simp⟩
def oQ(F:Fits ok P)(B:mM ok P){o:aF}(d:kh ok o){t:Bool}(g:a.eval o=ak t)(h:jH ok P ids (if t then x else y) Q a wh):jH ok P ids (aN o x y) Q a wh:=by
 intro b k f e hk;refine Reach.pure F B ?_ (lz d)<|h b k f e hk;have:(b.at a<|z (aN o x y)::k).eval o=ak t:=by rw[bV];exact g
 simp only[own,Frame.at]at this⊢;rw[this]
def qp(F:Fits ok P)(B:mM ok P){id:Nat}(h:jH ok P (id::ids) x (bJ id Q) a wh):jH ok P ids (aJ id x) Q a wh:=by
 intro b k q p hk;refine Reach.pure F B rfl (lz trivial) ?_;have d:∀i∈id::ids,∃j,exitTo i (aI id::k)=E j:=by intro i hi;by_cases e:id=i;(.subst e;exact⟨k,by simp[exitTo]⟩);.rcases List.mem_cons.1 hi with rfl|hi;(.omega);.obtain⟨j,d⟩:=hk i hi;exact⟨j,by simp[exitTo,e,d]⟩
 refine(h b (aI id::k) q p d).bind λt s⟨e,l,f,r,g,n⟩=>?_;subst r;cases e with|normal=>cases n;exact Reach.pure F B rfl (lz trivial)<|.stop ⟨az,l,_,rfl,g,rfl⟩|exit i=>obtain⟨j,e1,rfl⟩:=n;by_cases e:i=id;(.subst e;simp only[exitTo,beq_self_eq_true,if_true,bK]at e1;subst e1;simp only[bJ,if_true]at g;exact .stop ⟨az,l,_,rfl,g,rfl⟩);. (have o:(id==i)=K:=by grind);simp only[exitTo,o,bF,if_false]at e1;simp only[bJ,e,if_false]at g;exact .stop ⟨bm i,l,_,rfl,g,j,e1,rfl⟩|ret=>exact .stop ⟨aM,l,f,rfl,g,n⟩|_=>exact n.elim
def xg(F:Fits ok P)(B:mM ok P)(I:Act->Z->Prop)(i:Act->Z->Nat)(t:I a wh)(round:∀a w,I a w->jH ok P ids x (Exit.then (λd l=>I d l/\i d l<i a w) Q) a w):jH ok P ids (aZ x) Q a wh:=by
 intro b k h s hk;have key:∀n a w,i a w=n->I a w->Reach ok P (b.at a (z x::aX x::k)::h) w (λo g=>∃e d f,o=f::h/\Q e d g/\xw b k e d f):=by intro n;induction n using Nat.strongRecOn with|_ n C=>intro a w v r;refine(round a w r b (aX x::k) h s hk).bind λo g⟨e,d,f,q,j,p⟩=>?_;subst q;cases e with|normal=>cases p;exact Reach.pure F B rfl (lz trivial)<|C _ (v▸j.2) d g rfl j.1|_=>exact .stop ⟨_,d,f,rfl,j,p.pass (Y3 · x k)<|by simp⟩
 exact Reach.pure F B rfl (lz trivial)<|key _ a wh rfl t
def Nk(F:Fits ok P)(B:mM ok P)(h:Q aM a wh):jH ok P ids aW Q a wh:=λb k d _ hk=>Reach.pure F B rfl (lz trivial)<|.stop ⟨aM,a,_,rfl,h,_,rfl⟩
def Zq(F:Fits ok P)(B:mM ok P){id:Nat}{ops:Array ax}(h:∀b k d,(∃fn,P.funcs[b.fn]?=E fn)->(∀id∈ids,∃l,exitTo id k=E l)->Reach ok P (b.at a (V ops (bq ops.size)::k)::d) wh (λn g=>∃e i f,n=f::d/\Q e i g/\xw b k e i f)):jH ok P ids (aA id ops K) Q a wh:=λb k d j hk=>Reach.pure F B rfl (lz trivial)<|h b k d j hk
end
def lj(ok:iO)(P:au)(f:bC)(b:Array N)(wh:Z)(R:N->Z->Prop):Prop:=∀e,Reach ok P (ay P f b aD::e) wh λg d=>∃fr v,g=fr::e/\fr.fn=f/\fr.leaving P d (bd v)/\R v d
def UZ{fr:U}{w j:Z}{v:N}(hs:∃T,iV ok ρ fr.tmps T)(e:jz ok ρ w j)(h:fr.leaving P w<|bd v)(b:Nat->aH->Nat)(d:Nat):fr.leaving P (w.re b d)<|bd v:=by obtain⟨n,q,p,fn,k,g⟩:=h;refine⟨n,q,p,fn,k,?_⟩;obtain⟨T,o⟩:=hs;have hloc:=GQ (P:=P) (results fn fr.tmps) (Pn e.inj fn o) e w.tape w.drawn #[];cases f:(results fn fr.tmps).runT P (w.re w.tape w.drawn) #[]with|mk r s=>have e1:=congrArg Prod.fst f;rw[Sem.runT_fst,Hg,g]at e1;simp only at e1;subst e1;obtain⟨k1,k2,k3⟩:=hloc _ _ f;obtain⟨l,k4,_⟩:=k3 b d (λi hi=>by omega) #[];simp_all
def VT{fr:U}{w:Z}{b:N}(hs:sQ ok P (fr::v) w)(h:fr.leaving P w<|bd b)(e:Nat->aH->Nat)(d:Nat):fr.leaving P (w.re e d)<|bd b:=by obtain⟨ρ,la,i,f,g,j⟩:=hs;exact UZ (by cases f with|cons h _ _=>exact⟨_,h.tmps⟩) g h e d
def Reach.leave(F:Fits ok P)(B:mM ok P){fr c:U}{wh:Z}{f:N}(h:fr.leaving P wh<|bd f)(hk:Reach ok P (c.finish f::v) wh S):Reach ok P (fr::c::v) wh S:=by refine Reach.given λi b=>?_;refine Reach.own F B (l:=[fr,c]) (l1:=[c.finish f]) (by simp) (λg=>by rw[h.1]at g;cases g) (λe d=>?_) hk;obtain⟨q,o,p,fn,s,k⟩:=VT b h e d;cases j:(results fn fr.tmps).runT P (wh.re e d) #[]with|mk r n=>have e1:=congrArg Prod.fst j;rw[Sem.runT_fst,k]at e1;simp only at e1;subst e1;refine⟨e,d,n,?_⟩;unfold Rel.own;simp_all
def lj.xM(F:Fits ok P)(B:mM ok P){f:bC}{fn:Func}{c:aE}{b:Array N}{wh:Z}{R:N->Z->Prop}(i:P.funcs[f]?=E fn)(p:fn.body=E c)(h:jH ok P [] c (λe a w=>(e=az\/e=aM)/\(a.defers=[]->∃v,(results fn a.tmps).run P w=.ok v w/\R v w)) ⟨b++bg (fn.ntmps-b.size) an,[]⟩ wh):lj ok P f b wh R:=by
 intro t;have e:ay P f b aD=(ay P f b aD).at ⟨b++bg (fn.ntmps-b.size) an,[]⟩ [z c]:=by simp[ay,Frame.at,i,p]
 rw[e];refine(h (ay P f b aD) [] t ⟨fn,i⟩<|by simp).bind λC r⟨ex,D,fr,q,o,n⟩=>?_;subst q;refine Reach.given λg j=>?_;obtain⟨s,d⟩:=o;rcases s with rfl|rfl;.cases n;obtain⟨p1,l⟩:=g _<|cg ..;obtain⟨v,r1,r2⟩:=d p1;refine Reach.pure F B rfl (λ_ it k e=>by cases e)<|.stop ⟨_,v,rfl,rfl,⟨rfl,p1,l,fn,i,r1⟩,r2⟩
 .obtain⟨todo,rfl⟩:=n;obtain⟨p1,l⟩:=g _<|cg ..;obtain⟨v,r1,r2⟩:=d p1;exact .stop ⟨_,v,rfl,rfl,⟨rfl,p1,l,fn,i,r1⟩,r2⟩
section
variable{b:U}{a:Act}{ops:Array ax}{i:Nat}{rest:List Nat}{k:List u}{cs:List U}{wh:Z}{o:ax}
def Reach.call(F:Fits ok P)(B:mM ok P){f:bC}{e:Array N}{R:N->Z->Prop}(j:ops[i]?=E o)(r:mr ok P o\/Jz ok P o)(G:aQ o (yielded ops a.tmps)=O)(H:∀g d,(execOp a.eval o).runT P (wh.re g d) #[]=(.ok (.enter f e)<|wh.re g d,#[]))(q:lj ok P f e wh R)(hk:∀v w,R v w->Reach ok P (b.at (a.put o.dst v) (V ops rest::k)::cs) w S):Reach ok P (b.at a (V ops (i::rest)::k)::cs) wh S:=by
 refine Reach.own F B (l:=[b.at a<|V ops (i::rest)::k]) (l1:=[ay P f e aD,b.at a<|V ops (i::rest)::k]) (wh1:=wh) (by simp) (lz λD C=>by grind) (λg d=>⟨g,d,#[],?_⟩) ?_;.rw[Hs,j];simp_all
 .refine(q<|b.at a (V ops (i::rest)::k)::cs).bind λt h⟨fr,v,p,_,n,s⟩=>?_;subst p;refine Reach.leave F B n ?_;rw[bD,j];exact hk v h s
def Reach.op(F:Fits ok P)(B:mM ok P)(r:ops[i]?=E o)(p:mr ok P o)(s:aQ o (yielded ops a.tmps)=O){v:N}{g:Z}(q:∀h d,∃f n j,(execOp a.eval o).runT P (wh.re h d) #[]=(.ok (.value v)<|g.re f n,j))(hk:Reach ok P (b.at (a.put o.dst v) (V ops rest::k)::cs) g S):Reach ok P (b.at a (V ops (i::rest)::k)::cs) wh S:=by refine Reach.own F B (l:=[b.at a<|V ops (i::rest)::k]) (l1:=[b.at (a.put o.dst v)<|V ops rest::k]) (by simp) (lz λw t=>by grind) (λh d=>?_) hk;obtain⟨f,n,j,e⟩:=q h d;refine⟨f,n,j,?_⟩;rw[Hs,r];simp_all
def Reach.last(F:Fits ok P)(B:mM ok P)(hk:Reach ok P (b.at a k::cs) wh S):Reach ok P (b.at a (V ops []::k)::cs) wh S:=Reach.pure F B rfl (lz trivial) hk
end
def lj.mono{f:bC}{d:Array N}{wh:Z}{R e:N->Z->Prop}(h:lj ok P f d wh R)(p:∀v w,R v w->e v w):lj ok P f d wh e:=λcs=>(h cs).mono λr l⟨fr,v,n,q,g,j⟩=>⟨fr,v,n,q,g,p _ _ j⟩
end
section
variable{ok:iO}{P:au}
mutual def sd:N->Bool|ak _|ao _ _|.string _|m I|A I _ _|.map I|aP|bM=>O|.agg ⟨x⟩|bh ⟨x⟩=>EY x|_=>K def EY:List N->Bool|[]=>O|v::vs=>sd v&&EY vs end
mutual theorem Fu:∀{v:N},sd v=O->Flat v|ak _,_=>trivial|ao _ _,_=>trivial|.string _,_=>trivial|m I,_=>trivial|A I _ _,_=>trivial|.map I,_=>trivial|aP,_=>trivial|bM,_=>trivial|.agg ⟨x⟩,h=>by rw[Flat];exact G9 (by rw[sd]at h;exact h)|bh ⟨x⟩,h=>by rw[Flat];exact G9 (by rw[sd]at h;exact h)|m (E _),h=>by simp[sd]at h|A (E _) _ _,h=>by simp[sd]at h|.map (E _),h=>by simp[sd]at h|.chan _,h=>by simp[sd]at h|.func _ _ _,h=>by simp[sd]at h|bj _ _,h=>by simp[sd]at h|.float _ _,h=>by simp[sd]at h|.complex _ _ _,h=>by simp[sd]at h theorem G9:∀{v:List N},EY v=O->sg v|[],_=>by rw[sg];trivial|v::vs,h=>by rw[EY,ai]at h;rw[sg];exact⟨Fu h.1,G9 h.2⟩end
structure xS where
 fn:Nat->Bool
 kV:Bool
 gs:Nat
 jX:aq
structure xS.Fits(B:xS)(ok:iO):Prop where
 fn:∀f,B.fn f=true->ok.fn f
 kV:B.kV=true->ok.kV
 gs:B.gs=ok.gs
 jX:B.jX=ok.jX
section
variable(B:xS)(P)
def mV:aF->Bool|.tmp _=>O|.const v=>sd v|.global g=>B.kV&&decide (g<B.gs)|.func f=>B.fn f
def AX(t:aq):Bool:=match(P.info? t).bind (·.zero)with|E v=>sd v|I=>O
def Au(t:aq):Bool:=match P.underlying t with|E (.slice e)=>AX P e|_=>O
def Ed(t:aq):Bool:=match P.underlying t with|E (.int _)=>O|_=>K
def DF:Nat->aq->Bool|0,_=>K|d+1,t=>match P.underlying t with|E (.int _)=>O|E .bool=>O|E (.array _ e)=>DF d e|_=>K
def HM(t:aq):Bool:=match P.underlying t with|E (.pointer _)|E (.slice _)|E (.map _ _)|I=>O|_=>K
def EP:aF->Bool|.const (m I)|.const (A I _ _)|.const (.map I)|.const aP|.const bM=>O|_=>K
def CX(t:aq):Bool:=match P.underlying t with|E (.map k e)=>Ed P k&&AX P e|_=>O
def Ie(t:aq):Bool:=match P.underlying t with|E (.array _ _)|E (.slice _)|I=>O|_=>K
def Hr(s:aq)(i:Nat):Bool:=match P.underlying s with|E (.struct fs)=>(match fs[i]? with|E f=>(match P.info? f.type with|E d=>d.size !=0|I=>O)|I=>O)|_=>O
def Kr:TypeDesc->Bool|.interface _=>O|_=>K
def Ir(t:aq):Bool:=(P.eqGuardType P.depth t==K)&&(match P.underlying t with|E d=>!Kr d|I=>O)
def Jn(b:Builtin)(ts:Array aq):Bool:=match b with|.append=>(match ts[0]? with|E s=>Au P s|I=>O)&&(match ts[1]? with|E x=>(match P.underlying x with|E (.slice _)|E (.int _)|I=>O|_=>K)|I=>O)|.cap|.len|.copy=>O|.clear=>(match ts[0]? with|E s=>Au P s|I=>O)|.delete=>(match ts[0]? with|E s=>CX P s|I=>O)|_=>K
def Dw:Option aF->Bool|E x=>mV B x|I=>O
def Lj(op:BinOp)(t:aq)(x y:aF):Bool:=match op with|.add|.sub|.mul|.quo|.rem|.lss|.leq|.gtr|.geq=>Ed P t|.eql|.neq=>Ir P t&&(DF P 5 t||(HM P t&&(EP x||EP y)))|_=>K
def AJ(o:ax):Bool:=match o.op with|.move x|.assign x|.box _ x|.load _ x|.nilCheck x|.extract x _=>mV B x|.panic _=>O|.makeInterface t (.const v)=>(t !=B.jX)&&sd v|.pick c a b=>mV B c&&mV B a&&mV B b|.alloc t=>AX P t|.build t ps=>AX P t&&ps.toList.all λp=>mV B p.2|.buildSlice t _ ps=>Au P t&&ps.toList.all λp=>mV B p.2|.store _ a x|.indexAddr _ a x=>mV B a&&mV B x|.binOp op t x y _=>mV B x&&mV B y&&Lj P op t x y|.unOp .not _ x|.unOp .neg _ x=>mV B x|.makeFunc (.func f) first d=>B.fn f&&first.toList.all (mV B)&&d.toList.all (mV B)|.makeMap _ I=>O|.makeSlice t l c=>Au P t&&mV B l&&mV B c|.slice t x lo h g=>Ie P t&&mV B x&&Dw B lo&&Dw B h&&Dw B g|.fieldAddr s x i=>Hr P s i&&mV B x|.lookup t x k _=>CX P t&&mV B x&&mV B k|.mapUpdate t e k v|.insert t e k v=>CX P t&&mV B e&&mV B k&&mV B v|.call c=>c.args.toList.all (mV B)&&(match c.callee with|.value f=>mV B f|.builtin b=>Jn P b c.argTypes|.invoke _ _=>K)|_=>K
def mD:aE->Bool|bw|bn _|aW|bA _=>O|aA _ ops _=>ops.toList.all (AJ P B)|ae a b=>mD a&&mD b|aN c a b=>mV B c&&mD a&&mD b|aJ _ c|aZ c=>mD c|_=>K
end
section
variable{B:xS}(H:B.Fits ok)
include H
def me{x:aF}(h:mV B x=O):kh ok x:=by cases x with|tmp t=>trivial|const v=>exact Fu h|global g=>simp only[mV,ai,decide_eq_true_eq]at h;exact⟨H.kV h.1,by rw[<-H.gs];exact h.2⟩|func f=>exact H.fn f h
def II{l:Array aF}(h:l.toList.all (mV B)=O):∀x∈l,kh ok x:=λx a=>me H<|bz.1 h x<|by simpa using a
def Ol{l:Array<|Nat×aF}(h:l.toList.all (λp=>mV B p.2)=O):∀p∈l,kh ok p.2:=λx a=>me H<|by grind
def IC{o:Option aF}(h:Dw B o=O):∀y,o=E y->kh ok y:=by rintro y rfl;exact me H h
omit H
def D3{t:aq}(h:AX P t=O):ZF P t:=by intro d v a b;simp only[AX,a,bT,b]at h;exact Fu h
def DI{t:aq}(h:Au P t=O):ZE P t:=by intro e d v b a c;simp only[Au,b]at h;exact D3 h d v a c
def KC{t:aq}(h:Ed P t=O):sM P t:=by
 unfold Ed at h;split at h;.rename_i k e;exact⟨k,e⟩
 .cases h
def Kh:∀{d:Nat}{t:aq},DF P d t=O->zB P d t|0,t,h=>by cases h|d+1,t,h=>by unfold DF at h;unfold zB;split at h;(.rename_i k e;exact Y ⟨k,e⟩);(.grind);(.rename_i n e a;exact ah<|ah ⟨n,e,a,Kh h⟩);.cases h
def aeD{t:aq}(h:HM P t=O):C9 P t:=by intro d hd;simp only[HM,hd]at h;grind
def Nl{x:aF}(h:EP x=O):Du x:=by unfold EP at h;split at h<;>first|trivial|cases h
def EC{t:aq}(h:CX P t=O):zv P t:=by
 unfold CX at h;refine⟨λk e a=>?_,λk e d v a=>?_⟩<;>(simp only[a,ai]at h);.exact KC h.1
 .exact D3 h.2 d v
def Ux{t:aq}(h:Ie P t=O):F1 P t:=by intro d hd;simp only[Ie,hd]at h;grind
def adB{s:aq}(h:Hr P s r=O):Kv P s r:=by intro fs f d a c b;simp only[Hr,a,c,b]at h;simpa using h
def Vf{op:BinOp}{t:aq}(h:Ir P t=O):Jp P op t:=by intro _;simp only[Ir,ai,beq_iff_eq]at h;refine⟨h.1,λd hd a e=>?_⟩;rw[hd,e]at h;simp[Kr]at h
def adE{b:Builtin}{ts:Array aq}(h:Jn P b ts=O):DJ P b ts:=by
 unfold Jn at h;unfold DJ;split at h;.simp only[ai]at h;refine⟨λs hs=>?_,λx d a hd=>?_⟩;(.have:=h.1;rw[hs]at this;exact DI this);grind
 .trivial
 .trivial
 .trivial
 .intro s hs;rw[hs]at h;exact DI h
 .intro s hs;rw[hs]at h;exact EC h
 .cases h
include H
def Ip{o:ax}(h:AJ P B o=O):mr ok P o:=by unfold AJ at h;unfold mr;generalize o.op=op at h⊢;cases op with|move x=>exact me H h|assign x=>exact me H h|box t x=>exact me H h|load t x=>exact me H h|nilCheck x=>exact me H h|extract x i=>exact me H h|panic x=>trivial|makeInterface t x=>(cases x with|const v=>simp only[ai,bne_iff_ne]at h;exact⟨by rw[<-H.jX];exact h.1,_,rfl,Fu h.2⟩|_=>cases h)|pick c a b=>simp only[ai]at h;exact⟨me H h.1.1,me H h.1.2,me H h.2⟩|alloc t=>exact D3 h|build t ps=>simp only[ai]at h;exact⟨D3 h.1,Ol H h.2⟩|buildSlice t n ps=>simp only[ai]at h;exact⟨DI h.1,Ol H h.2⟩|store t a x=>simp only[ai]at h;exact⟨me H h.1,me H h.2⟩|indexAddr t a x=>simp only[ai]at h;exact⟨me H h.1,me H h.2⟩|binOp op t x y G=>simp only[ai]at h;obtain⟨⟨q,g⟩,d⟩:=h;refine⟨me H q,me H g,?_⟩;unfold Lj at d;unfold Ea;(cases op<;>first|(cases d;done)|exact⟨λe=>(by simp at e),K,KC d,λe=>by cases e⟩|skip);all_goals simp only[ai,Bool.or_eq_true]at d;refine⟨Vf d.1,?_⟩;rcases d.2 with p|⟨p,C⟩;(.exact⟨K,Y ⟨5,by omega,Kh p⟩,λe=>by cases e⟩);.exact⟨O,ah ⟨aeD p,rfl⟩,λ_=>C.imp Nl Nl⟩|unOp op t x=>(cases op<;>first|(cases h;done)|exact⟨Y rfl,me H h⟩|exact⟨ah rfl,me H h⟩)|makeFunc fn first j=>(cases fn with|func f=>simp only[ai]at h;exact⟨⟨f,rfl,H.fn f h.1.1⟩,II H h.1.2,II H h.2⟩|_=>cases h)|makeMap t r=>grind|makeSlice t l c=>simp only[ai]at h;exact⟨DI h.1.1,me H h.1.2,me H h.2⟩|slice t x lo F D=>simp only[ai]at h;exact⟨Ux h.1.1.1.1,me H h.1.1.1.2,IC H h.1.1.2,IC H h.1.2,IC H h.2⟩|fieldAddr t x i=>simp only[ai]at h;exact⟨adB h.1,me H h.2⟩|lookup t x k c=>simp only[ai]at h;exact⟨EC h.1.1,me H h.1.2,me H h.2⟩|mapUpdate t w k v=>simp only[ai]at h;exact⟨EC h.1.1.1,me H h.1.1.2,me H h.1.2,me H h.2⟩|insert t w k v=>simp only[ai]at h;exact⟨EC h.1.1.1,me H h.1.1.2,me H h.1.2,me H h.2⟩|call c=>simp only[ai]at h;refine⟨II H h.1,?_⟩;obtain⟨q,g⟩:=h;(cases s:c.callee with|value f=>rw[s]at g;exact me H g|builtin b=>rw[s]at g;exact adE g|invoke _ _=>grind)|_=>cases h
def pO:∀{c:aE},mD P B c=O->oN ok P c|bw,_=>trivial|bn _,_=>trivial|aW,_=>trivial|bA _,_=>trivial|aA _ ops _,h=>λo d=>Ip H (bz.1 (by rw[mD]at h;exact h) o<|by simpa using d)|ae a b,h=>by rw[mD,ai]at h;exact⟨pO h.1,pO h.2⟩|aN c a b,h=>by rw[mD,ai,ai]at h;exact⟨me H h.1.1,pO h.1.2,pO h.2⟩|aJ _ c,h=>by rw[mD]at h;exact pO (c:=c) h|aZ c,h=>by rw[mD]at h;exact pO (c:=c) h
end
end
section
open Go.Conc Go.ConcN Go.RowKit Go.Conc.Lib Go.ConcR.Gen Go.ConcN.Gen
open Go.ConcR(KK wgBlock WgAt stA smA rd wr mk Payload DC0)
variable[Payload]{L:WgLink}{P:au}
section
variable{Wg:Nat}{Stop:aY->Z->Prop}{b₀:U}{a₀:Act}{ops₀:Array ax}{i₀:Nat}{rest₀:List Nat}{k₀:List u}{cs:List U}{mT:Nat}
def ZL(H:WgLib P L)(B:∀w,WgLive L.tWg Wg w->Goes P O (RA L.tWg Wg) DC0 Stop mT (G (b₀.at (a₀.put ((ops₀[i₀]?).bind (·.dst)) (bh #[])) (V ops₀ rest₀::k₀)) cs) w)(g:aY)(w:Z)(h:uJ L Wg (b₀.at a₀<|V ops₀ (i₀::rest₀)::k₀) cs g w):lU P L.tWg Wg (FB P L.tWg Wg (uJ L Wg (b₀.at a₀<|V ops₀ (i₀::rest₀)::k₀) cs) Stop) g w:=by
 lib_facts;obtain⟨T,rfl,t,t0,_,hF⟩:=h;obtain⟨v0,v1,v2,v3,v4,v5,v6,v7,v8,v9,br,bc,aH,bj,aw,X,ba,be,a2,D,bg,a4,ap,aC,ak,aR,aT,bq,az,R,a7,aG,am,ai,ax,aD,aa,aq,aV,a9,aI,bi,aB,bf,ac,bu,ah,bb,av,an,aS,aF,bp,aQ,a5,bd,aJ,aZ,aU,a8,bn,aE,aA,Q,bt,aj,aN,aW,aL,al,a3,aO,bm,a0,au,J,ay,a6,ae,aX,aP,bo,M,aM,rfl⟩:=array84 T t;simp only[ck,cx,bK]at t0;subst t0;refine⟨40,?_⟩;simp only[L7,body_wait,waitFn,bN];u_c stepG_block iC hF;u_c stepG_seq iC hF;u_reg iC hF;iterate 3 u_op iC hF
 u_call H.f_uLoad(nm_uLoad L)uLoadFn iC hF;u_c stepG_seq iC hF;u_reg iC hF;u_op iC hF;u_c stepG_region_end iC hF;u_c stepG_seq iC hF;u_reg iC hF;iterate 3 u_op iC hF
 refine ar λq k=>?_;replace hF:=iC hF k;clear k;refine⟨rfl,λv hv a=>?_⟩;rcases cj v with rfl|aK;. (replace a:WgAt L.tWg Wg q 0 0:=by simpa using a);refine⟨_,stepG_load_atomic (v:=0) rfl rfl (by k_ne) rfl H.f_loadU64 (x_loadU64_n L) (x_loadU64_b L) (x_loadU64_x L) .u64 (x_loadU64_f L) rfl a.cellSt,λ_=>⟨60,?_⟩,λh=>absurd rfl h⟩;clear a;walk_nrm;u_op iC hF;u_c stepG_region_end iC hF;u_c stepG_ret' iC hF;u_leave1 H.f_uLoad iC hF;u_op iC hF;u_c stepG_region_end iC hF;u_c stepG_seq iC hF;u_reg iC hF;(iterate 4 u_op iC hF);u_c stepG_region_end iC hF;u_c stepG_seq iC hF;u_reg iC hF;(iterate 4 u_op iC hF);u_c stepG_region_end iC hF;u_c stepG_seq iC hF;u_c stepG_seq iC hF;u_reg iC hF;(iterate 2 u_op iC hF);u_c stepG_region_end iC hF;u_cond O iC hF;u_c stepG_seq iC hF;u_cond O iC hF;u_c stepG_seq iC hF;u_reg iC hF;refine ar λs b=>?_;replace hF:=iC hF b;clear b;refine⟨rfl,_,stepG_mark0 .enable (by simp) rfl rfl (by k_ne) rfl H.f_enable (x_enable_n L) (x_enable_b L) (x_enable_x L)<|x_enable_f L,20,?_⟩;walk_nrm;u_c stepG_region_end iC hF;u_reg iC hF;u_op iC hF;u_conv H.underlying_tWgP H.room_tWg(WgLive.cell0 hF).choose_spec iC hF;refine ar λr c=>?_;replace hF:=iC hF c;clear c;refine⟨rfl,_,stepG_markAt .acquire (by simp) rfl rfl (by k_ne) rfl H.f_acquire (x_acquire_n L) (x_acquire_b L) (x_acquire_x L) (x_acquire_f L)<|by simp[bl,stA],⟨mT+30,?_⟩⟩;walk_nrm;u_c stepG_region_end iC hF;u_c stepG_seq iC hF;u_c stepG_seq iC hF;u_reg iC hF;(iterate 8 u_op iC hF);u_skip iC hF;u_skip iC hF;u_op iC hF;u_c stepG_region_end iC hF;u_cond K iC hF;u_c stepG_skip iC hF;u_c stepG_ret' iC hF;u_leave0 H.f_wait iC hF;exact Gx (B _ hF)<|by omega
 .obtain⟨S,o⟩:∃S:Int,(v:Int)*KK=S:=⟨_,rfl⟩;(have a1:S/4294967296=(v:Int):=by rw[<-o];simp only[KK];omega);(have b1:bits .and .u64 S 2147483648=0:=by rw[<-o];have:=st_flag v 0 (by omega) (by omega);simpa[KK]using this);(have b2:bits .and .u64 S 2147483647=0:=by rw[<-o];have:=st_waiters v 0 (by omega) (by omega);simpa[KK]using this);(have c1:IntKind.i32.wrap (v:Int)=(v:Int):=by rw[IntKind.wrap_i32];omega);(have w1:IntKind.u64.wrap (S+1)=S+1:=by rw[IntKind.wrap_u64,<-o];simp only[KK];omega);have q3:decide ((v:Int)<0)=K:=decide_eq_false (by omega);have q4:decide (0<(v:Int))=O:=decide_eq_true (by omega);(have q5:((v:Int)==0)=K:=by simp;omega);have q6:decide ((v:Int)=0)=K:=decide_eq_false (by omega);rw[o]at a;refine⟨_,stepG_load_atomic (v:=S) rfl rfl (by k_ne) rfl H.f_loadU64 (x_loadU64_n L) (x_loadU64_b L) (x_loadU64_x L) .u64 (x_loadU64_f L) rfl a.cellSt,λh0=>absurd h0<|by omega,λ_=>⟨80,?_⟩⟩;clear a;walk_nrm;u_op iC hF;u_c stepG_region_end iC hF;u_c stepG_ret' iC hF;u_leave1 H.f_uLoad iC hF;u_op iC hF;u_c stepG_region_end iC hF;u_c stepG_seq iC hF;u_reg iC hF;(iterate 4 u_op iC hF);u_c stepG_region_end iC hF;u_c stepG_seq iC hF;u_reg iC hF;(iterate 4 u_op iC hF);u_c stepG_region_end iC hF;u_c stepG_seq iC hF;u_c stepG_seq iC hF;u_reg iC hF;(iterate 2 u_op iC hF);u_c stepG_region_end iC hF;u_cnd K iC hF;u_c stepG_skip iC hF;u_c stepG_seq iC hF;u_reg iC hF;(iterate 6 u_op iC hF);u_call H.f_uCas(nm_uCas L)uCasFn iC hF;u_c stepG_seq iC hF;u_reg iC hF;u_op iC hF;u_c stepG_region_end iC hF;u_c stepG_seq iC hF;u_reg iC hF;(iterate 5 u_op iC hF);refine ar λp i=>?_;replace hF:=iC hF i;clear i;refine⟨rfl,λv' F a=>⟨λe=>?_,λe=>?_⟩⟩;(.subst e;rw[o]at a⊢;refine⟨_,(stepG_cas_hit (v:=S) (n:=S+1) rfl rfl (by k_ne) rfl H.f_casU64 (x_casU64_n L) (x_casU64_b L) (x_casU64_x L) .u64 (x_casU64_f L) rfl rfl rfl a.cellSt<|a.thaw 0).trans<|by rfl,70,?_⟩;replace hF:WgLive L.tWg Wg<|p.setCell (stA Wg)<|ao .u64<|S+1:=⟨_,_,a.setSt _⟩;clear a;walk_nrm;u_op iC hF;u_c stepG_region_end iC hF;u_c stepG_ret' iC hF;u_leave1 H.f_uCas iC hF;u_c stepG_region_end iC hF;u_cond O iC hF;u_c stepG_seq iC hF;u_c stepG_seq iC hF;u_reg iC hF;(iterate 4 u_op iC hF);u_c stepG_region_end iC hF;u_cond O iC hF;u_reg iC hF;(iterate 3 u_op iC hF);u_conv H.underlying_tPU32 H.room_tU32(WgLive.cell1 hF).choose_spec iC hF;refine ar λy j=>?_;replace hF:=iC hF j;clear j;refine⟨rfl,_,stepG_markAt .write (by simp) rfl rfl (by k_ne) rfl H.f_raceWrite (x_raceWrite_n L) (x_raceWrite_b L) (x_raceWrite_x L) (x_raceWrite_f L) (ad:=⟨Wg,1,I⟩)<|by simp[bl],60,?_⟩;walk_nrm;u_c stepG_region_end iC hF;u_c stepG_seq iC hF;u_reg iC hF;u_op iC hF;u_c stepG_region_end iC hF;u_c stepG_seq iC hF;u_c stepG_seq iC hF;u_reg iC hF;(iterate 4 u_op iC hF);u_skip iC hF;u_op iC hF;u_c stepG_region_end iC hF;u_cond K iC hF;u_c stepG_skip iC hF;u_c stepG_seq iC hF;u_reg iC hF;(iterate 4 u_op iC hF);refine ar λf d=>?_;replace hF:=iC hF d;clear d;refine⟨rfl,rfl,λ⟨st,a⟩=>stepG_semacquire_wait rfl rfl rfl H.f_semacquire (x_semacquire_n L) (x_semacquire_b L) (x_semacquire_x L) (x_semacquire_f L) (by simp[bl,smA]) a.cellSm,λx=>?_⟩;refine⟨_,(stepG_semacquire (n:=1) rfl rfl (by k_ne) rfl H.f_semacquire (x_semacquire_n L) (x_semacquire_b L) (x_semacquire_x L) (x_semacquire_f L) (by simp[bl,smA]) x.cellSm (by k_ne)<|x.thaw 1).trans<|by rfl,40,?_⟩;replace hF:WgLive L.tWg Wg<|f.setCell (smA Wg)<|ao .u32 0:=⟨_,_,x.setSm 0⟩;clear x;walk_nrm;u_c stepG_region_end iC hF;u_c stepG_seq iC hF;u_reg iC hF;(iterate 3 u_op iC hF);u_call H.f_uLoad(nm_uLoad L)uLoadFn iC hF;u_c stepG_seq iC hF;u_reg iC hF;u_op iC hF;u_c stepG_region_end iC hF;u_c stepG_seq iC hF;u_reg iC hF;(iterate 3 u_op iC hF);refine ar λC l=>?_;replace hF:=iC hF l;clear l;refine⟨rfl,λa=>⟨_,stepG_load_atomic (v:=0) rfl rfl (by k_ne) rfl H.f_loadU64 (x_loadU64_n L) (x_loadU64_b L) (x_loadU64_x L) .u64 (x_loadU64_f L) rfl a.cellSt,40,?_⟩⟩;clear a;walk_nrm;u_op iC hF;u_c stepG_region_end iC hF;u_c stepG_ret' iC hF;u_leave1 H.f_uLoad iC hF;(iterate 2 u_op iC hF);u_c stepG_region_end iC hF;u_c stepG_seq iC hF;u_cond O iC hF;u_c stepG_seq iC hF;u_reg iC hF;refine ar λs b=>?_;replace hF:=iC hF b;clear b;refine⟨rfl,_,stepG_mark0 .enable (by simp) rfl rfl (by k_ne) rfl H.f_enable (x_enable_n L) (x_enable_b L) (x_enable_x L)<|x_enable_f L,20,?_⟩;walk_nrm;u_c stepG_region_end iC hF;u_reg iC hF;u_op iC hF;u_conv H.underlying_tWgP H.room_tWg(WgLive.cell0 hF).choose_spec iC hF;refine ar λr c=>?_;replace hF:=iC hF c;clear c;refine⟨rfl,_,stepG_markAt .acquire (by simp) rfl rfl (by k_ne) rfl H.f_acquire (x_acquire_n L) (x_acquire_b L) (x_acquire_x L) (x_acquire_f L)<|by simp[bl,stA],⟨mT+20,?_⟩⟩;walk_nrm;u_c stepG_region_end iC hF;u_c stepG_seq iC hF;u_c stepG_seq iC hF;u_reg iC hF;u_op iC hF;u_c stepG_region_end iC hF;u_cond K iC hF;u_c stepG_skip iC hF;u_c stepG_ret' iC hF;u_leave0 H.f_wait iC hF;exact Gx (B _ hF)<|by omega);.refine⟨_,stepG_cas_miss (v:=(v':Int)*KK) (old:=S) (n:=S+1) rfl rfl (by k_ne) rfl H.f_casU64 (x_casU64_n L) (x_casU64_b L) (x_casU64_x L) .u64 (x_casU64_f L) rfl rfl rfl a.cellSt (a.thaw 0)<|by rw[<-o];simp only[KK];omega,30,?_⟩;clear a;walk_nrm;u_op iC hF;u_c stepG_region_end iC hF;u_c stepG_ret' iC hF;u_leave1 H.f_uCas iC hF;u_c stepG_region_end iC hF;u_cond K iC hF;u_c stepG_skip iC hF;u_c stepG_inBlock iC hF;u_c stepG_inLoop iC hF;refine ar λf d=>?_;replace hF:=iC hF d;exact⟨_,rfl,by simp,by simp,trivial,hF⟩
def afZ(H:WgLib P L)(w:Z)(hF:WgLive L.tWg Wg w):Goes P O (RA L.tWg Wg) DC0 (qv P .disable<|lU P L.tWg Wg<|uJ L Wg (b₀.at a₀<|V ops₀ (i₀::rest₀)::k₀) cs) 10 (G (ay P L.wait #[m<|E ⟨Wg,0,I⟩] aD)<|b₀.at a₀ (V ops₀ (i₀::rest₀)::k₀)::cs) w:=by
 have e:ay P L.wait #[m<|E ⟨Wg,0,I⟩] aD=(base L.wait).at ⟨#[m<|E ⟨Wg,0,I⟩]++bg ((waitFn L).ntmps-1) an,[]⟩ [z<|body_wait L]:=by simp[ay,Frame.at,H.f_wait,body_wait,base];rfl
 rw[e];lib_facts;simp only[body_wait,waitFn,bN];walk_nrm;u_c stepG_seq iC hF;u_cond O iC hF;u_reg iC hF;refine ar λc a=>?_;replace hF:=iC hF a;clear a;refine⟨rfl,_,stepG_mark0 .disable (by simp) rfl rfl (by k_ne) rfl H.f_disable (x_disable_n L) (x_disable_b L) (x_disable_x L)<|x_disable_f L,10,?_⟩;walk_nrm;u_c stepG_region_end iC hF;u_c stepG_block iC hF;u_c stepG_loop iC hF;exact ar λd b=>⟨_,rfl,by simp,by simp,trivial,iC hF b⟩
end
end
end Go.Rel
namespace Go.Proofs.YtldeiiffabfmeaaGreatDoor
section
open Go.Conc Go.ConcN Go.RowKit Go.Conc.Lib Go.ConcR.Gen Go.ConcN.Gen Go.Rel
open Go.ConcR(KK wgBlock WgAt stA smA rd wr mk Payload DC0 ofEvent_cell)
structure tR(ok:iO):Prop where
 fits:Fits ok W
 kg:oq ok W
 kU:¬ok.kU
 none:Gn ok
 kV:ok.kV
 gs:ok.gs=1
 jX:ok.jX=1000000
def blank{ok:iO}(h:ok.jX=1000000):xS.Fits ⟨λ_=>K,K,ok.gs,1000000⟩ ok:=⟨(λ_ h=>by cases h),(λh=>by cases h),rfl,h.symm⟩
def La(g:Nat):Go.Rel.mD W ⟨λ_=>K,K,g,1000000⟩ r0=O/\Go.Rel.mD W ⟨λ_=>K,K,g,1000000⟩ r1=O/\Go.Rel.mD W ⟨λ_=>K,K,g,1000000⟩ r2=O/\Go.Rel.mD W ⟨λ_=>K,K,g,1000000⟩ r3=O:=⟨by kernel_rfl,by kernel_rfl,by kernel_rfl,by kernel_rfl⟩
def DG(g:Nat):Go.Rel.mD W ⟨λ_=>K,K,g,1000000⟩ r4=O/\Go.Rel.mD W ⟨λ_=>K,K,g,1000000⟩ r5=O/\Go.Rel.mD W ⟨λ_=>K,K,g,1000000⟩ r8=O/\Go.Rel.mD W ⟨λ_=>K,K,g,1000000⟩ vW=O:=⟨by kernel_rfl,by kernel_rfl,by kernel_rfl,by kernel_rfl⟩
def wB(wh:Z)(pa:aG)(n:Nat)(M:Array N):Z:=((wh.alloc<|aj #[m<|E pa] 167).alloc<|aj M 202).alloc<|aj #[A (E ⟨wh.heap.size+1,0,I⟩) n n] 198
def iM{P:au}{c:aE}{Q d:aK->Act->Z->Prop}{a:Act}{w:Z}(h:c.wp P Q a w)(f:∀e a w,Q e a w->d e a w):c.wp P d a w:=by intro b k i;obtain⟨e,n,l,j,g⟩:=h b k i;exact⟨e,n,l,f _ _ _ j,g⟩
section
variable{ok:iO}
def Pt(B0:tR ok){c:aE}(j:oN ok W c){a a':Act}{wh wh':Z}(h:∀b d,c.wp W (λe i w1=>e=az/\i=a'/\w1=wh'.re b d) a<|wh.re b d){k:List u}{S:List U->Z->Prop}(hk:Go.Rel.Reach ok W ((base 109).at a' k::v) wh' S):Go.Rel.Reach ok W ((base 109).at a (z c::k)::v) wh S:=by have l:=uS (ids:=[]) (Q:=λe i w1=>e=az/\i=a'/\∃b d,w1=wh'.re b d) B0.fits B0.kg j (λe a w b d g=>⟨g.1,g.2.1,by obtain⟨o,r,rfl⟩:=g.2.2;exact⟨b,d,rfl⟩⟩) (λe a w g=>by rw[g.1];trivial) λb d=>iM (h b d) λe a w g=>⟨g.1,g.2.1,b,d,g.2.2⟩;refine(l (base 109) k v ⟨_,bO⟩<|by simp).bind ?_;rintro p q⟨e,i,f,rfl,⟨rfl,rfl,b,d,rfl⟩,n⟩;cases n;exact hk.re b d
def adH(B0:tR ok)(pa:aG)(ra:Option aG)(n c:Nat)(j:n<2147483647)(wh:Z)(h:List U):Go.Rel.Reach ok W (ay W 109 #[m<|E pa,A ra n c] aD::h) wh λi f=>∃M:Array N,M.size=6*n/\(∃a d,f=(wB wh pa n M).re a d)/\i=(base 109).at ⟨s2 (m<|E pa) (A ra n c) n wh.heap.size,[]⟩ [z r2,z<|ae (ae r3<|aJ 0<|aZ lb)<|ae r9<|ae vW aW]::h:=by
 have C:=La ok.gs;have K:=blank B0.jX;obtain⟨M,g,b⟩:=TD n j;have e:ay W 109 #[m<|E pa,A ra n c] aD=(base 109).at ⟨s0 (m<|E pa)<|A ra n c,[]⟩ [z tf]:=by simp[ay,Frame.at,bO,Tryz.f109,base,tf,s0]
 rw[e,Sc];refine Go.Rel.Reach.pure B0.fits B0.kg.jS (fr1:=(base 109).at ⟨s0 (m<|E pa)<|A ra n c,[]⟩ [z r0,z _]) rfl (lz trivial) ?_;refine Pt B0 (pO K C.1) (a':=⟨s1 (m<|E pa) (A ra n c) wh.heap.size,[]⟩) (wh':=wh.alloc<|aj #[m<|E pa] 167) (λa d=>QS pa _<|wh.re a d) ?_;refine Go.Rel.Reach.pure B0.fits B0.kg.jS (fr1:=(base 109).at ⟨s1 (m<|E pa) (A ra n c) wh.heap.size,[]⟩ [z r1,z _]) rfl (lz trivial) ?_;refine Pt B0 (pO K C.2.1) (a':=⟨s2 (m<|E pa) (A ra n c) n wh.heap.size,[]⟩) (wh':=wB wh pa n M) (λa d=>aeo pa ra n c wh.heap.size M b ((wh.alloc<|aj #[m<|E pa] 167).re a d)<|by show(wh.heap.push _).size=_;simp) ?_;refine Go.Rel.Reach.pure B0.fits B0.kg.jS (fr1:=(base 109).at ⟨s2 (m<|E pa) (A ra n c) n wh.heap.size,[]⟩ [z r2,z _]) rfl (lz trivial) ?_;exact .stop ⟨M,g,⟨_,_,rfl⟩,rfl⟩
end
def sX(ok:iO)(Wg R n:Nat):iO:={ok with tags:=λk=>if k=0 then m (E ⟨Wg,0,I⟩)else A (E ⟨R,0,I⟩) n n}
section
variable{ok:iO}{Wg R n:Nat}
def Bw(B0:tR ok):uz ok<|sX ok Wg R n:=⟨λ_=>Iff.rfl,⟨B0.kU,B0.kU⟩,rfl,rfl,B0.none⟩
def Gg(B0:tR ok):uz ok ok:=⟨λ_=>Iff.rfl,⟨B0.kU,B0.kU⟩,rfl,rfl,B0.none⟩
def zy{P:au}:∀{c:aE},oN ok P c->oN (sX ok Wg R n) P c|bw,_=>trivial|bn _,_=>trivial|aW,_=>trivial|bA _,_=>trivial|aA _ ops _,h=>λo d=>h o d|ae a b,h=>⟨zy h.1,zy h.2⟩|aN c a b,h=>⟨h.1,zy h.2.1,zy h.2.2⟩|aJ _ c,h=>zy (c:=c) h|aZ c,h=>zy (c:=c) h
def Qz(C:oq ok W):oq (sX ok Wg R n) W:=⟨C.jS,λf fn c b a d=>zy<|C.code f fn c b a d⟩
def We(F:Fits ok W):Fits (sX ok Wg R n) W:=⟨F.gs⟩
end
def lD(wh:Z)(pa:aG):Z:={wh with heap:=(((wh.heap.map yT).push<|aj #[m<|E pa] 167 (0,2)).push<|aj #[] 202 (0,1)).push<|aj #[bj 1000000<|ao .i64 (1:Nat)] 198 (0,2)}
def uh(jl:iI)(N pb C:Nat):iI:=λb a=>jl b a\/(b=N/\a=pb)\/(b=N+2/\a=C)
section
variable{wh:Z}{pa:aG}
def vk:(lD wh pa).heap.size=wh.heap.size+3:=by simp[lD]
def zn{b:Nat}(h:b<wh.heap.size):(lD wh pa).heap[b]?=(wh.heap[b]?).map yT:=by simp only[lD];grind
def BC:(lD wh pa).heap[wh.heap.size]?=E (aj #[m<|E pa] 167 (0,2)):=by simp only[lD];grind
def ZU:(lD wh pa).heap[wh.heap.size+1]?=E (aj #[] 202 (0,1)):=by simp only[lD];grind
def CO:(lD wh pa).heap[wh.heap.size+2]?=E (aj #[bj 1000000<|ao .i64 (1:Nat)] 198 (0,2)):=by simp only[lD];grind
def CY{b:Nat}(h:∃x t f,(lD wh pa).heap[b]?=E (aj x t f)):kC (lD wh pa) b:=by
 obtain⟨x,t,f,e⟩:=h;have c:b<wh.heap.size+3:=by rw[<-vk];exact(cz.1 e).1
 rcases Nat.lt_or_ge b wh.heap.size with h|h;.rw[zn h]at e;obtain⟨o,i,a⟩:=cA.1 e;cases o with|cells y d g=>exact⟨y,d,_,by rw[zn h,i];rfl,bH (Nat.le_max_left ..)<|bP _⟩|_=>cases a
 .rcases(show b=wh.heap.size\/b=wh.heap.size+1\/b=wh.heap.size+2 by omega)with rfl|rfl|rfl;(.exact⟨_,_,2,BC,by simp⟩);(.exact⟨#[],202,1,ZU,by simp⟩);.exact⟨_,_,2,CO,by simp⟩
end
def abW{ok:iO}{ρ:iI}{o b:Obj}(h:ni ok ρ o b):ni ok ρ (yT o) b:=by cases h with|@cells x p a t fr d g=>refine .cells a t ⟨λi f k=>⟨Nat.zero_le _,?_⟩,λe=>by simp at e⟩;exact Nat.lt_succ_of_lt<|Nat.lt_of_lt_of_le (g.H4 i f k).2<|Nat.le_max_right ..|map a c=>exact .map a c|number j l=>exact .number j l
section
variable{ok:iO}{jl ρ1:iI}{wh w w1:Z}{pa:aG}{n Wg C R pb:Nat}{M:Array N}{τ:Nat->aH->Nat}{d:Nat}
def abB{b:Nat}(h:b<wh.heap.size):((wB wh pa n M).re τ d).heap[b]?=wh.heap[b]?:=by show(((wh.heap.push _).push _).push _)[b]?=_;grind
def abx:((wB wh pa n M).re τ d).heap[wh.heap.size]?=E (aj #[m<|E pa] 167):=by show(((wh.heap.push _).push _).push _)[_]?=_;grind
def afX:((wB wh pa n M).re τ d).heap[wh.heap.size+1]?=E (aj M 202):=by show(((wh.heap.push _).push _).push _)[_]?=_;grind
def YD:((wB wh pa n M).re τ d).heap[wh.heap.size+2]?=E (aj #[A (E ⟨wh.heap.size+1,0,I⟩) n n] 198):=by show(((wh.heap.push _).push _).push _)[_]?=_;grind
def we{ok:iO}{ρ:iI}{a:aG}{b:N}(h:iH ok ρ (m<|E a) b):∃c,b=m (E c)/\jK ρ a c:=by cases h with|ptr h=>grind
def Fc{ok:iO}{ρ:iI}{a:aG}{m k:Nat}{b:N}(h:iH ok ρ (A (E a) m k) b)(hs:a.spot=I:=by rfl):∃c,b=A (E c) m k/\jK ρ a c:=by cases h with|slice h=>grind|dead a=>cases hs
def Ny(B0:tR ok)(h:jz ok jl wh w)(f:jz ok ρ1 ((wB wh pa n M).re τ d) w1)(e:jl.le ρ1){b:Nat}(c:jl b r):∃o a,wh.heap[b]?=E o/\w1.heap[r]?=E a/\ni ok jl o a:=by obtain⟨o,a,e1,e2,e3⟩:=f.obj<|e _ _ c;obtain⟨l,i,g,k,j⟩:=h.obj c;rw[abB (h.lt c).1,g]at e1;cases e1;exact⟨_,_,g,e2,e3.shrink (Gg B0) e f.inj.fn j⟩
def LS(c:jl.le ρ1)(e:ρ1 wh.heap.size pb)(a:ρ1 (wh.heap.size+2) C):(uh jl wh.heap.size pb C).le ρ1:=by
 rintro b f(h|⟨rfl,rfl⟩|⟨rfl,rfl⟩);.exact c _ _ h
 .exact e
 .exact a
def afQ(B0:tR ok)(q:jz ok jl wh w)(f:jz ok ρ1 ((wB wh pa n M).re τ d) w1)(p:jl.le ρ1)(s:ρ1 wh.heap.size pb)(F:ρ1 (wh.heap.size+2) C)(l:∃x,jl pa.block x)(k:w1.heap[C]?=E (aj #[A (E ⟨R,0,I⟩) n n] 198)):jz (sX ok Wg R n) (uh jl wh.heap.size pb C) (lD wh pa) w1:=by
 have c:=LS p s F;have j:jl.le<|uh jl wh.heap.size pb C:=λb y h=>Y h;refine⟨⟨λa b=>f.inj.fn (c _ _ a)<|c _ _ b,λa b=>f.inj.inj (c _ _ a)<|c _ _ b,λa b=>f.inj.kV (c _ _ a) b⟩,⟨?_,f.gs.2⟩,λx=>absurd x B0.kU,?_,f.out⟩;.rw[vk];have:=q.gs.1;show ok.gs<=_;omega
 .rintro b y(v|⟨rfl,rfl⟩|⟨rfl,rfl⟩);(.obtain⟨o,J,e1,e2,e3⟩:=Ny B0 q f p v;exact⟨_,_,by rw[zn (q.lt v).1,e1];rfl,e2,abW<|e3.lift (Bw B0) j⟩);(.obtain⟨o,J,e1,e2,e3⟩:=f.obj s;rw[abx]at e1;cases e1;cases e3 with|@cells _ B H _ _ P G=>obtain rfl:=G.nil rfl;refine⟨_,_,BC,e2,.cells ?_ _ ⟨λi f r=>absurd r<|by simp,λe=>by simp at e⟩⟩;obtain⟨B⟩:=B;cases H with|cons L hs=>cases hs;obtain⟨S,rfl,t⟩:=we L;obtain⟨Q,g⟩:=l;refine .cons (.ptr ⟨Y ?_,t.2⟩) .nil;have:=f.inj.fn (p _ _ g) t.1;grind);.have D:ni (sX ok Wg R n) (uh jl wh.heap.size pb y) (aj #[bj 1000000<|ao .i64 (1:Nat)] 198 (0,2))<|aj #[A (E ⟨R,0,I⟩) n n] 198:=.cells (.cons (iH.tag (ok:=sX ok Wg R n) 1 B0.jX.symm rfl trivial) .nil) _ ⟨λi f r=>absurd r<|by simp,λe=>by simp at e⟩;exact⟨_,_,CO,k,D⟩
end
def opsOf:aE->Array ax|aA _ o _=>o|_=>#[]
noncomputable def o2:ax:=((opsOf r2)[0]?).getD default
def Ym:r2=aA 2 (opsOf r2) K:=rfl
def Ae:(opsOf r2)[0]?=E o2/\o2.op=.alloc 224/\o2.dst=E 6/\o2.guard=I/\(opsOf r2).size=1:=⟨rfl,rfl,rfl,rfl,rfl⟩
def pz:Obj:=aj #[ao .u64 0,ao .u32 0] 224
def R7(e:aF->N)(w:Z):(execOp e o2).run W w=.ok (.value<|m<|E ⟨w.heap.size,0,I⟩) (w.alloc pz)/\(execOp e o2).events W w #[]=#[]:=by
 constructor;.unfold execOp;simp only[Ae.2.1];simp[go_sem,pz]
 .unfold execOp;simp only[Ae.2.1];simp[go_sem]
def QW(f:U)(hk:f.kind≠cD)(T:Array N)(D:List Deferred)(i:List U)(k:List u)(w:Z):Goes W O AtRel (λ_ _ p=>p=#[]) (λg a=>∃d,g=G (f.at ⟨T.setIfInBounds 6<|m<|E ⟨w.heap.size,0,I⟩,D⟩ k) i/\a=(w.alloc pz).at d) 3 (G (f.at ⟨T,D⟩<|z r2::k) i) w:=by rw[Ym];refine bQ rfl λa c=>?_;obtain⟨d1,rfl⟩:=c;rw[stepG_region];refine⟨rfl,bQ rfl λo h=>?_⟩;obtain⟨d2,rfl⟩:=h;rw[Ae.2.2.2.2];have j:=R7 (⟨T,D⟩:Act).eval<|(w.at d1).at d2;show(stepG W O (G (f.at ⟨T,D⟩<|V (opsOf r2) (0::[])::k) i) _).goes _;rw[stepG_value Ae.1 (by simp[aQ,Ae.2.2.2.1]) hk j.1];unfold listed;rw[j.2,seen_none];refine⟨rfl,bQ rfl λl b=>?_⟩;obtain⟨d3,rfl⟩:=b;rw[stepG_region_end];refine⟨rfl,λn e=>?_⟩;obtain⟨d4,rfl⟩:=e;exact⟨d4,by rw[Ae.2.2.1];rfl,rfl⟩
def sP(p rd:N)(n a:Nat):Array N:=#[p,rd,m<|E ⟨a,0,I⟩,an,A I 0 0,m<|E ⟨a+2,0,I⟩,bj 1000000<|ao .i64 (0:Nat),an,an,rd,ao .i64 n,aP,an,an,an,an,an,an,an,an,an,an,an,an]
def By(jl:iI)(w:Z)(a:Nat):Prop:=∃b,jl b a/\∃x t f,w.heap[a]?=E (aj x t f)
noncomputable def A0:aE:=ae (ae r3<|aJ 0<|aZ lb)<|ae r9<|ae vW aW
def IJ(T:Array N)(h:T.size=24):∃t C y s w r v x D B q o e d g i f n k a p j b c,T=#[t,C,y,s,w,r,v,x,D,B,q,o,e,d,g,i,f,n,k,a,p,j,b,c]:=by obtain⟨l⟩:=T;match l,h with|[t,C,y,s,w,r,v,x,D,B,q,o,e,d,g,i,f,n,k,a,p,j,b,c],_=>simp
section
variable{ok:iO}{jl ρ1:iI}{wh w w1:Z}{pa:aG}{ra:Option aG}{n c:Nat}{M:Array N}{τ:Nat->aH->Nat}{d:Nat}{le cs:List U}{gs gs1:Array aY}{t t1:Trace}{q q1:Nat->Nat}{Shun Shun1:Loc->Prop}
def Wx{ok e:iO}{P:au}{ρ ρ1:iI}(p:uz ok e)(k:ρ.le ρ1)(r:∀{a b f},ρ1 a b->ρ1 a f->b=f){l la:List U}(j:Fs e P ρ1 l la):∀{lb:List U},Fs ok P ρ l lb->Fs ok P ρ l la:=by induction j with|nil=>intro lb _;exact .nil|cons h o _ i=>intro lb s;cases s with|cons g v gs=>exact .cons {g with fn:=h.fn,todo:=h.todo,tmps:=jf.shrink p k r h.tmps g.tmps,mode:=h.mode,tA:=h.tA,early:=h.early} o<|i gs
def jA{ok:iO}{ρ:iI}{v e:N}{x f:List N}(h:jf ok ρ (v::x)<|e::f):iH ok ρ v e/\jf ok ρ x f:=by cases h with|cons a b=>exact⟨a,b⟩
def sZ{ok:iO}{ρ:iI}{T b:Array N}(h:iV ok ρ T b){k:Nat}{v:N}(hk:T[k]?=E v):∃a,b[k]?=E a/\iH ok ρ v a:=by
 rcases h.get? k with⟨e,_⟩|⟨g,f,e1,e2,e3⟩;.grind
 grind
def agD(B0:tR ok)(aw:qX ok W jl le wh gs w t q Shun)(Gr:vY jl w.heap.size ρ1 w1.heap.size)(a7:∃x,jl pa.block x)(a9:∀a,ra=E a->∃x,jl a.block x)(cG:∃fe ap,Fs ok W jl (fe::cs) ap)(H:qX ok W ρ1 ((base 109).at ⟨s2 (m<|E pa) (A ra n c) n wh.heap.size,[]⟩ [z r2,z A0]::cs) ((wB wh pa n M).re τ d) gs1 w1 t1 q1 Shun1)(hM:M.size=6*n)(sl:Option<|Nat×Nat):∃(Wg C R pb:Nat)(s:Sn)(aL:Option (Nat×Nat))(f:U)(ba:List U),(∃df,runNT W df (crowd gs1 w1 sl) t1=(.next<|crowd s.gs s.w aL,s.t))/\(∀okW RS,jQ (sX ok Wg R n) W (uM Wg C R n gs1.size s.w.heap.size s.w.heap.size s.w (By jl s.w) Shun1 okW RS) 0 (uh jl wh.heap.size pb C) (lD wh pa) 0 nj s/\Go.Rel.Stat (uM Wg C R n gs1.size s.w.heap.size s.w.heap.size s.w (By jl s.w) Shun1 okW RS))/\s.gs[0]?=E (G f ba)/\m7 (sX ok Wg R n) W (uh jl wh.heap.size pb C) ((base 109).at ⟨sP (m<|E pa) (A ra n c) n wh.heap.size,[]⟩ [z A0]) f/\Plain f/\Fs ok W jl cs ba/\w.heap.size<=pb/\w.heap.size<=C/\w.heap.size<=R/\w.heap.size<=Wg/\w.heap.size<=s.w.heap.size/\(∀b y,jl b y->∃o o',wh.heap[b]?=E o/\s.w.heap[y]?=E o'/\ni ok jl o o')/\jl.le (uh jl wh.heap.size pb C):=by obtain⟨la,bt,ci⟩:=H.g0;cases ci with|@cons _ S hf hp _ ba hs=>simp only[List.headD_cons,List.tail_cons]at bt;(have dd:S=S.at ⟨S.tmps,S.defers⟩ (z r2::[z A0]):=by have a2:=hf.todo;have a3:=hf.mode;have a4:=hf.tA;obtain⟨fn,tmps,todo,defers,mode,kind,round⟩:=S;simp only[base,Frame.at]at a2 a3 a4;subst a2 a3 a4;rfl);have hT:=hf.tmps;have b8:S.tmps.size=24:=hT.size.symm;obtain⟨_,g2,cO⟩:=sZ hT (k:=2) rfl;obtain⟨_,g5,cl⟩:=sZ hT (k:=5) rfl;obtain⟨_,aT,a8⟩:=sZ hT (k:=11) rfl;obtain⟨⟨pb,_,_⟩,rfl,aC,rfl,rfl⟩:=we cO;obtain⟨⟨C,_,_⟩,rfl,hC,rfl,rfl⟩:=we cl;obtain⟨⟨R,_,_⟩,rfl,hR,rfl,rfl⟩:=Fc a8;simp only at aC hC hR;have he:=aw.qJ;have T:=H.qJ;have bf:∀{b y},jl b y->b<wh.heap.size:=λF=>(he.lt F).1;(have Q:∀{b y},ρ1 b y->wh.heap.size<=b->w.heap.size<=y:=λ{b y}F aS=>(Gr.new b y F).resolve_left λhx=>by grind);have cH:=Q aC<|bu _;have fC:=Q hC (by omega);have fR:=Q hR (by omega);(have cX:ok.old.heap.size<=w.heap.size:=by apply Nat.le_of_not_lt;intro am;have:=aw.iR w.heap.size am;grind);(obtain⟨M',cM,cN⟩:∃M':Array N,w1.heap[R]?=E (aj M' 202)/\M'.size=6*n:=by obtain⟨o,o',e1,e2,e3⟩:=T.obj hR;rw[afX]at e1;cases e1;cases e3 with|cells hx _ a5=>obtain rfl:=a5.nil rfl;exact⟨_,e2,by rw[<-hx.size];exact hM⟩);(have bx:w1.heap[C]?=E (aj #[A (E ⟨R,0,I⟩) n n] 198):=by obtain⟨o,o',e1,e2,e3⟩:=T.obj hC;rw[YD]at e1;cases e1;cases e3 with|@cells _ x' hx _ _ _ a5=>obtain rfl:=a5.nil rfl;obtain⟨x'⟩:=x';cases hx with|cons hv hs=>cases hs;obtain⟨⟨R',_,_⟩,rfl,ha,rfl,rfl⟩:=Fc hv;obtain rfl:=T.inj.fn hR ha;exact e2);have bv:=(T.lt hR).2;have bo:=(T.lt hC).2;(have ct:R≠C:=λe=>by grind);have aR:=afQ (Wg:=w1.heap.size) B0 he T Gr.le aC hC a7 bx;have aS:=LS (wh:=wh) Gr.le aC hC;(have cU:gs1[0]?=E (G (S.at ⟨S.tmps,S.defers⟩<|z r2::[z A0]) ba):=by grind);obtain⟨Nn,cT,a',w',aL,t',q',bb,bc,cV,⟨J,rfl,rfl⟩,bi,ac⟩:=walk_beside (P:=W) (Shun:=Shun1) (B:=w1.heap.size) (D:=λ_ _ es=>es=#[]) (λ_ _ es h e he=>by grind) (3+sumTo gs1.size q1) 3 gs1 _ w1 sl t1 q1 (bu _) cU H.lv H.AZ<|QW S hf.early S.tmps S.defers ba [z A0] w1;have a0:((w1.alloc pz).at J).heap=w1.heap.push pz:=rfl;(have L:((w1.alloc pz).at J).heap.size=w1.heap.size+1:=by rw[a0];simp);(have aa:∀y,y<w1.heap.size->((w1.alloc pz).at J).heap[y]?=w1.heap[y]?:=λy F=>by grind);(have cv:((w1.alloc pz).at J).heap[w1.heap.size]?=E pz:=by grind);have br:=yV aR (w':=(w1.alloc pz).at J) (by omega) (λb y F=>aa y (aR.lt F).2) ⟨rfl,rfl⟩;(have aB:∀{b y:Nat},uh jl wh.heap.size pb C b y->(∃x t f,((w1.alloc pz).at J).heap[y]?=E (aj x t f))->kC (lD wh pa) b:=by intro b y F⟨x,t,f,e⟩;obtain⟨o,o',e1,e2,e3⟩:=br.obj F;rw[e]at e2;cases e2;cases e3 with|cells=>exact CY ⟨_,_,_,e1⟩);(have cn:∀{b y:Nat},uh jl wh.heap.size pb C b y->b≠wh.heap.size+1/\b<wh.heap.size+3:=by rintro b y(F|⟨rfl,_⟩|⟨rfl,_⟩);(.grind);(.omega);.omega);refine⟨w1.heap.size,C,R,pb,⟨cT,(w1.alloc pz).at J,t',λ_=>⟨λ_ _=>False,[],wh,0⟩,λ_=>⟨0,0,0⟩,λ_=>0,q',0,0⟩,aL,_,ba,⟨Nn,bb⟩,λokW RS=>⟨⟨?_,cv,?_⟩,?_⟩,cV,?_,⟨hp.defers,hp.kind⟩,?_,cH,fC,fR,Gr.size,by grind,?_,λb y h=>Y h⟩;(.refine⟨bc,λk g hk _ hg=>bi.old k g hk hg,λk hk=>bi.above k<|by rw[bc];exact hk,λi hi=>absurd hi<|by omega,?_,?_,?_,?_,ac.hears,λi hi=>absurd hi<|by omega,λi hi=>absurd hi<|by omega,λi hi=>absurd hi<|by omega,?_⟩;(.refine⟨br,λx g hg=>Y<|aw.kV x g hg,λi hi=>absurd hi<|by omega,λi hi=>absurd hi<|by omega,λi hi=>absurd hi<|by omega,λi hi=>absurd hi<|by omega,λi hi=>absurd hi<|by omega,λb y F am=>?_,λi hi=>absurd hi<|by omega,λb y F=>?_,λi hi=>absurd hi<|by omega,?_,?_,?_,λy av=>?_,λy av=>?_,bu _,λi hi=>absurd hi<|by omega⟩;(.rcases F with F|⟨rfl,rfl⟩|⟨rfl,rfl⟩;(.obtain⟨x,t,hi,e,_⟩:=aw.tG b y F am;exact CY ⟨_,_,_,by rw[zn<|bf F,e];rfl⟩);(.exact CY ⟨_,_,_,BC⟩);.exact CY ⟨_,_,_,CO⟩);(.have am:=(aR.lt F).2;refine⟨by show y≠w1.heap.size;omega,λe=>?_,λe=>?_,λl hl=>?_⟩;(.have e:y=R:=e;subst e;exact(cn F).1<|T.inj.inj (aS _ _ F) hR);(.have e:y=C:=e;grind);.have:=H.Dq b y<|aS _ _ F;cases l with|cell a=>exact this.1 a hl|obj r=>have e:r=y:=hl;subst e;exact this.2|_=>exact hl.elim);(.show _<((w1.alloc pz).at J).heap.size/\_<((w1.alloc pz).at J).heap.size/\_<((w1.alloc pz).at J).heap.size/\_/\_/\_;rw[L];have:=Gr.size;refine⟨by show w1.heap.size<_;omega,by show C<_;omega,by show R<_;omega,bu _,by show ok.old.heap.size<=w1.heap.size;omega,by show ok.old.heap.size<=R;omega⟩);(.exact(aa _ bo).trans bx);(.exact⟨M',(aa _ bv).trans cM,cN⟩);(.have hk:=H.iR y av;refine(aa y ?_).trans hk;have:y<ok.old.heap.size:=av;omega);.obtain⟨b,F,hx⟩:=av;have am:=(T.lt<|Gr.le _ _ F).2;refine⟨rfl,by show y≠w1.heap.size;omega,λe=>?_,by show y<((w1.alloc pz).at J).heap.size;rw[L];omega,λb2 cW=>aB cW hx⟩;have e:y=R:=e;subst e;have:=T.inj.inj (Gr.le _ _ F) hR;grind);(. (have cS:jB (uM w1.heap.size C R n gs1.size ((w1.alloc pz).at J).heap.size ((w1.alloc pz).at J).heap.size ((w1.alloc pz).at J) (By jl<|(w1.alloc pz).at J) Shun1 okW RS) 0=λ_=>False:=by funext g;apply propext;unfold jB;simp);rw[cS];refine Tl.begin ac λi a ha⟨ad,e,F⟩=>?_;obtain⟨op,al,cR⟩:=touch_of ha;have:=O9 (ac.seen op<|bR al) cR;rw[e]at this;have:ad.block<w1.heap.size:=this;have F:ad.block=w1.heap.size:=F;omega);(.exact(Kn.begin ac).mono λg hg=>hg.elim);(.intro i hi;obtain⟨op,al,b9⟩:=cA.1 hi;have:=ac.seen op<|bR al;rw[b9]at this;exact absurd (show w1.heap.size<w1.heap.size from this)<|by omega);.intro op al;have:=MemAct.low_mono (bP _)<|ac.seen op al;grind);(.have:=OL (j:=0) (D:=λ_=>⟨0,0,0⟩) λi hi=>absurd hi (by omega);simpa[Vc,sumTo]using this);(.refine⟨by show R≠w1.heap.size;omega,by show C≠w1.heap.size;omega,ct,λi i' o a1 a2 a3 a4=>?_,λa ha ho=>?_,λa ha ho=>?_,λl hl=>?_,?_⟩;(.have a1:6*i<=o:=a1;have a2:o<6*i+6:=a2;have a3:6*i'<=o:=a3;have a4:o<6*i'+6:=a4;omega);(.have dg:a.block<w1.heap.size:=H.low _ ho;have dr:a.block=w1.heap.size:=ha;omega);(.have:=H.Dq _ _ hR;cases a with|cell ad=>exact this.1 ad ha ho|obj r=>have e:r=R:=ha;subst e;exact this.2 ho|_=>exact ha.elim);(.show l.low ((w1.alloc pz).at J).heap.size;rw[L];exact Loc.low_mono (bP _)<|H.low l hl);.exact(cz.1 bt).1);(.have iR:∀{v v':N},iH ok ρ1 v v'->(∃a6,iH ok jl v a6)->iH (sX ok w1.heap.size R n) (uh jl wh.heap.size pb C) v v':=λh⟨a6,hu⟩=>(h.shrink (Gg B0) Gr.le T.inj.fn hu).lift (Bw B0) λb y h=>Y h;have be:(∃x,jl pa.block x)->∃a6,iH ok jl (m<|E pa) a6:=λ⟨x,hx⟩=>⟨m<|E ⟨x,pa.off,pa.spot⟩,.ptr ⟨hx,rfl,rfl⟩⟩;(have X:(∀a,ra=E a->∃x,jl a.block x)->∃a6,iH ok jl (A ra n c) a6:=by intro h;cases ra with|none=>exact⟨_,.mz n c⟩|some a=>obtain⟨x,hx⟩:=h a rfl;exact⟨A (E ⟨x,a.off,a.spot⟩) n c,iH.slice (a:=a) (a':=⟨x,a.off,a.spot⟩) ⟨hx,rfl,rfl⟩ n c⟩);refine⟨hf.fn,rfl,by intro i hi;simp only[Frame.at,bI]at hi;subst hi;trivial,?_,rfl,rfl,?_,rfl,rfl,hf.early⟩;rotate_left;(.rfl);show iV (sX ok w1.heap.size R n) (uh jl wh.heap.size pb C) (sP (m<|E pa) (A ra n c) n wh.heap.size) (S.tmps.setIfInBounds 6<|m<|E ⟨w1.heap.size,0,I⟩);obtain⟨v0,v1,v2,v3,v4,v5,v6,v7,v8,v9,dq,dm,di,dk,dj,db,dc,dh,c8,cY,cZ,da,ds,de,eT⟩:=IJ S.tmps b8;have bp:=hT;rw[eT]at bp g2 g5 aT;simp only[ck,List.getElem?_cons_succ,cx,bK]at g2 g5 aT;subst g2 g5 aT;rw[eT];have p:=bp;simp only[s2]at p;obtain⟨h0,p⟩:=jA p;obtain⟨T,p⟩:=jA p;obtain⟨h2,p⟩:=jA p;obtain⟨h3,p⟩:=jA p;obtain⟨h4,p⟩:=jA p;obtain⟨h5,p⟩:=jA p;obtain⟨h6,p⟩:=jA p;obtain⟨h7,p⟩:=jA p;obtain⟨h8,p⟩:=jA p;obtain⟨h9,p⟩:=jA p;obtain⟨cm,p⟩:=jA p;obtain⟨dl,p⟩:=jA p;obtain⟨ce,p⟩:=jA p;obtain⟨cf,p⟩:=jA p;obtain⟨cB,p⟩:=jA p;obtain⟨cQ,p⟩:=jA p;obtain⟨ca,p⟩:=jA p;obtain⟨cK,p⟩:=jA p;obtain⟨cr,p⟩:=jA p;obtain⟨cJ,p⟩:=jA p;obtain⟨cu,p⟩:=jA p;obtain⟨co,p⟩:=jA p;obtain⟨cd,p⟩:=jA p;obtain⟨cb,p⟩:=jA p;simp only[sP,List.setIfInBounds_toArray];exact(.cons (iR h0<|be a7)<|.cons (iR T<|X a9)<|.cons (.ptr ⟨ah<|Y ⟨rfl,rfl⟩,rfl,rfl⟩)<|.cons (iR h3 ⟨_,.undef⟩)<|.cons (iR h4 ⟨_,.mz 0 0⟩)<|.cons (.ptr ⟨ah<|ah ⟨rfl,rfl⟩,rfl,rfl⟩)<|.cons (iH.tag (ok:=sX ok w1.heap.size R n) 0 B0.jX.symm rfl trivial)<|.cons (iR h7 ⟨_,.undef⟩)<|.cons (iR h8 ⟨_,.undef⟩)<|.cons (iR h9<|X a9)<|.cons (iR cm ⟨_,.int .i64 n⟩)<|.cons (.jP trivial)<|.cons (iR ce ⟨_,.undef⟩)<|.cons (iR cf ⟨_,.undef⟩)<|.cons (iR cB ⟨_,.undef⟩)<|.cons (iR cQ ⟨_,.undef⟩)<|.cons (iR ca ⟨_,.undef⟩)<|.cons (iR cK ⟨_,.undef⟩)<|.cons (iR cr ⟨_,.undef⟩)<|.cons (iR cJ ⟨_,.undef⟩)<|.cons (iR cu ⟨_,.undef⟩)<|.cons (iR co ⟨_,.undef⟩)<|.cons (iR cd ⟨_,.undef⟩)<|.cons (iR cb ⟨_,.undef⟩) .nil));(.obtain⟨fe,ap,aO⟩:∃fe ap,Fs ok W jl (fe::cs) ap:=cG;cases aO with|cons _ _ cc=>exact Wx (Gg B0) Gr.le T.inj.fn hs cc);.intro b y F;obtain⟨o,o',e1,e2,e3⟩:=Ny B0 he T Gr.le F;grind
end
end
end Go.Proofs.YtldeiiffabfmeaaGreatDoor
namespace Go.Rel
section
def qW(a:cE)(ops:Array ax)(n:Nat)(tail:List Nat):Bool:=decide (n<=ops.size)&&((bq n).all λi=>match ops[i]? with|E o=>o.after.toList.all λe=>!cF a e||(decide (e.on<n)&&decide (e.on<i))|I=>O)&&((bq<|ops.size-n).all λk=>(bq n).all λj=>C5 a ops n (n+k) j)&&(chain a ops (ops.size-n) (bg n O++bg (ops.size-n) K)==E tail)
def sC{f:cE}{ops:Array ax}{n:Nat}{tail:List Nat}(h:qW f ops n tail=O):Cut f ops n tail:=by
 simp only[qW,ai,decide_eq_true_eq,bz,List.mem_range,beq_iff_eq]at h;obtain⟨⟨⟨q,r⟩,l⟩,p⟩:=h;have b:∀(i:Nat)o,i<n->ops[i]?=E o->∀e∈o.after,cF f e=O->e.on<n/\e.on<i:=by intro i o hi c e a d;have:=r i hi;rw[c]at this;simp only[bz]at this;have:=this e (by simpa using a);simpa[d]using this
 refine⟨q,λi o hi c e a d=>(b i o hi c e a d).1,λk hk g j s=>?_,p,⟨id,λi o hi c e a d=>(b i o hi c e a d).2⟩⟩;have:=l (k-n) (by omega) j s;rwa[show n+(k-n)=k by omega]at this
end
end Go.Rel
namespace Go.Proofs.YtldeiiffabfmeaaGreatDoor
section
open Go.Conc Go.ConcN Go.RowKit Go.Conc.Lib Go.ConcR.Gen Go.ConcN.Gen Go.Rel
open Go.ConcR(KK wgBlock WgAt stA smA rd wr mk Payload DC0 ofEvent_cell)
def Jk:qW .any nU 25 [25,26]=O/\qW .text nU 25 [25,26]=O/\qW .gc nU 25 [25,26]=O:=⟨by kernel_rfl,by kernel_rfl,by kernel_rfl⟩
def aaa(a:Bool):uF a nU 25 [25,26]:=⟨λ_=>sC Jk.1,λ_ _=>⟨sC Jk.2.1,sC Jk.2.2⟩⟩
def Tw:∀(i:Nat)o j a,i<25->nU[i]?=E o->o.guard=E (j,a)->j<25:=by
 have h:(nU.toList.all λo=>o.guard.isNone)=O:=by kernel_rfl
 intro i o j a _ b c;have:=bz.1 h o (by simpa using bR b);rw[c]at this;cases this
def It(okW:iO)(n:Nat)(RS:Nat->Array N->Z->Prop)(i:Nat)(a:Act)(w:Z):Prop:=a.defers=[]/\a.tmps.size=31/\a.tmps[5]?=E (bj okW.jX<|ao .i64 (1:Nat))/\a.tmps[6]?=E (ao .i64 i)/\∃x,a.tmps[29]?=E (.agg x)/\x.size=6/\(∀v∈x,v.oneCell'=O)/\i<n/\RS i x w
def C4(okW:iO)(n:Nat)(RS:Nat->Array N->Z->Prop)(i:Nat)(b h c g:N)(wh:Z):Prop:=∀f d,(aA 1 (nU.extract 0 25) O).wp W (λe a w=>e=az/\It okW n RS i a w) ⟨ug aP b h c g,[]⟩<|wh.re f d
structure E8(okW:iO):Prop where
 fits:Fits okW W
 kg:oq okW W
 ops:∀(i:Nat)o,i<25->nU[i]?=some o->mr okW W o
def ZQ{okW:iO}(s:E8 okW){n:Nat}{RS:Nat->Array N->Z->Prop}(B:∀r x w G d,RS r x w->RS r x (w.re G d)){o g j p:N}{wh:Z}(h:C4 okW n RS r o g j p wh)(c:∃(e:iI)(y:Array N)(D:Z),iV okW e (ug aP o g j p) y/\jz okW e wh D/\oV okW e):Go.Rel.Safe okW W (O0 okW n RS r) [zN.at ⟨ug aP o g j p,[]⟩ [z Dc]] wh:=by obtain⟨e,y,D,L,X,P⟩:=c;have Q:m7 okW W e (zN.at ⟨ug aP o g j p,[]⟩ [])<|zN.at ⟨y,[]⟩ []:=⟨rfl,rfl,λ_ h=>(by cases h),L,rfl,rfl,rfl,rfl,rfl,show aD≠cD by decide⟩;rw[aav];have hs:=aaE s.fits s.kg (id:=1) (b:=zN) (k:=[]) (cs:=[]) (td:=[]) (R:=It okW n RS r) (aaa _) (by decide) Tw s.ops (λa w G d f=>⟨f.1,f.2.1,f.2.2.1,f.2.2.2.1,by obtain⟨x,q,v,F,t,C⟩:=f.2.2.2.2;exact⟨x,q,v,F,t,B _ _ _ _ _ C⟩⟩) h ⟨_,Tryz.func131⟩ ⟨e,[_],D,.cons Q ⟨rfl,rfl⟩ .nil,X,P⟩;refine Go.Rel.Safe.mono ?_ hs;rintro l w⟨⟨T,df⟩,rfl,H,q,v,F,x,t,C,M,J,S⟩;simp only at H;subst H;exact⟨T,x,rfl,q,v,F,t,C,M,J,S⟩
end
end Go.Proofs.YtldeiiffabfmeaaGreatDoor
namespace Go.Rel
section
open Go.Conc Go.ConcN
open Go.ConcR(Payload)
variable[Payload]{ok:iO}{P:au}{J:mh}{j:Nat}{ρ0:iI}{wh wh':Z}{d0:Nat}{tag:CTag}
def jQ.xK{s:Sn}{b:Nat->aH->Nat}{d:Nat}(h:jQ ok P J j ρ0 (wh.re b d) d0 tag s):jQ ok P J j ρ0 wh d0 tag s:=by have a:=h.cy.mem;exact⟨{h.cy with mem:=⟨⟨a.ln.inj,a.ln.gs,a.ln.zero,a.ln.obj,a.ln.out⟩,a.uW,a.rel,a.kV,a.vg,a.wm,a.tg,a.tG,a.pQ,a.qK,a.sO,a.lt,a.var,a.row,a.iR,a.still,a.n1⟩},h.wg,h.mode⟩
structure qm(ok:iO)(P:au)(J:mh)(j:Nat)(ρ0:iI)(wh:Z)(d0:Nat)(tag:CTag)(ba:List U)(fr:U)(s:Sn)(f:U):Prop where
 wR:jQ ok P J j ρ0 wh d0 tag s
 zw:s.gs[0]?=some (G f ba)
 rel:m7 ok P ρ0 fr f
 plain:Plain f
def Pe(r:qV P J j)(F:Fits ok P)(B:mM ok P)(i:tag≠.blk){fr:U}{S:List U->Z->Prop}(hs:Safe ok P S [fr] wh){s:Sn}{f:U}(h:qm ok P J j ρ0 wh d0 tag v fr s f)(t:∀l w,S l w->∃a wh' p d,l=[a]/\w=World.re wh' p d/\S l wh')(sl:Option<|Nat×Nat):∃q n b D a wh',ki P s sl q n/\qm ok P J j b wh' d0 tag v a q D/\ρ0.le b/\S [a] wh':=by obtain⟨s1,c,e,M,x,C,L,r1,c1,b1,k1,k,y⟩:=To r F B i v hs (X:=[]) sl h.wR (by simpa using h.zw)<|.cons h.rel h.plain .nil;obtain⟨a,o,p,d,rfl,rfl,H⟩:=t _ _ y;cases k1 with|cons g G gs=>cases gs;exact⟨s1,c,e,C,a,o,r1,⟨c1.xK,by simpa using b1,g,G⟩,k,H⟩
def oZ(t:qV P J j)(F:Fits ok P)(B:mM ok P)(n:tag≠.blk){fr fr1:U}{s:Sn}{f:U}(h:qm ok P J j ρ0 wh d0 tag v fr s f)(q:own P [fr]=pure [fr1])(hd:rj ok P [fr])(sl:Option<|Nat×Nat):∃r o a D,ki P s sl r o/\qm ok P J j a wh d0 tag v fr1 r D/\ρ0.le a:=by
 have hs:Safe ok P (λl w=>l=[fr1]/\∃b d,w=wh.re b d) [fr] wh:=by refine .step hd (λb d=>⟨[fr1],wh.re b d,#[],by rw[q];rfl⟩) λb d H M L p=>?_;rw[q]at p;cases p;exact .stop ⟨rfl,b,d,rfl⟩
 obtain⟨s1,k,i,C,y,x,r1,c,g,e1,b,d,e2⟩:=Pe t F B n hs h (λl w⟨e,b,d,G⟩=>⟨fr1,wh,b,d,e,G,e,wh.tape,wh.drawn,rfl⟩) sl;cases e1;subst e2;exact⟨s1,k,i,C,r1,⟨c.wR.xK,c.zw,c.rel,c.plain⟩,g⟩
def Da(ac:qV P J j)(F:Fits ok P)(C:oq ok P)(B:tag≠.blk){c:aE}(hc:oN ok P c){b:U}{a:Act}{k:List u}{X:Act->Prop}(S:∃fn,P.funcs[b.fn]?=E fn)(hw:∀g d,c.wp P (λe G w1=>e=az/\X G/\w1=wh'.re g d) a<|wh.re g d){s:Sn}{f:U}(h:qm ok P J j ρ0 wh d0 tag v (b.at a<|z c::k) s f)(sl:Option<|Nat×Nat):∃L x n f' i,ki P s sl L x/\qm ok P J j n wh' d0 tag v (b.at i k) L f'/\ρ0.le n/\X i:=by
 have p:sQ ok P (b.at a (z c::k)::[]) wh:=⟨ρ0,[f],s.w,.cons h.rel h.plain .nil,h.wR.cy.mem.ln,h.wR.cy.mem.uW⟩;have hs:=S0 (ids:=[]) (Q:=λe G w1=>e=az/\X G/\∃g d,w1=wh'.re g d) F C hc (λe a w g d r=>⟨r.1,r.2.1,by obtain⟨R,d',rfl⟩:=r.2.2;exact⟨g,d,rfl⟩⟩) (λe a w r=>by rw[r.1];trivial) (λg d=>by intro b k T;obtain⟨e,i,w',o,h2⟩:=hw g d b k T;exact⟨e,i,w',⟨o.1,o.2.1,g,d,o.2.2⟩,h2⟩) S (by simp) p;have H:Safe ok P (λl w=>∃i,l=[b.at i k]/\X i/\∃g d,w=wh'.re g d) [b.at a<|z c::k] wh:=by refine Safe.mono ?_ hs;rintro l w⟨e,i,f,rfl,⟨rfl,q,g,d,rfl⟩,hx⟩;cases hx;exact⟨i,rfl,q,g,d,rfl⟩
 obtain⟨s1,t,D,M,aa,ad,r1,o,y,i,e1,q,g,d,e2⟩:=Pe ac F C.jS B H h (λl w⟨i,e,q,g,d,e'⟩=>⟨b.at i k,wh',g,d,e,e',i,e,q,wh'.tape,wh'.drawn,rfl⟩) sl;cases e1;subst e2;exact⟨s1,t,D,M,i,r1,⟨o.wR.xK,o.zw,o.rel,o.plain⟩,y,q⟩
end
end Go.Rel
namespace Go.Proofs.YtldeiiffabfmeaaGreatDoor
section
open Go.Conc Go.ConcN Go.RowKit Go.Conc.Lib Go.ConcR.Gen Go.ConcN.Gen Go.Rel
open Go.ConcR(KK wgBlock WgAt stA smA rd wr mk Payload DC0 ofEvent_cell)
noncomputable def D2:aE:=ae r9<|ae vW aW
noncomputable def KL:List u:=[aX lb,aI 0,z D2]
noncomputable def K6:List u:=z r7::aI 1::z r8::KL
def aea:r7=aA 7 (opsOf r7) K:=rfl
structure qM where
 iz:Int
 read:Bool
 ka:Option aG
 kn:Nat
 kc:Nat
 b0:Bool
 b1:Bool
 b2:Bool
 b3:Bool
def qM.cells(e:qM):Array N:=#[ao .i64 e.iz,ak e.read,A e.ka e.kn e.kc,ak e.b0,ak e.b1,ak e.b2,ak e.b3]
def xX(w:Z)(rb o:Nat)(e:qM):Prop:=w.cell? ⟨rb,o,I⟩=E (ao .i64 e.iz)/\w.cell? ⟨rb,o+1,I⟩=E (ak e.read)/\w.cell? ⟨rb,o+2,I⟩=E (A e.ka e.kn e.kc)/\w.cell? ⟨rb,o+3,I⟩=E (ak e.b0)/\w.cell? ⟨rb,o+4,I⟩=E (ak e.b1)/\w.cell? ⟨rb,o+5,I⟩=E (ak e.b2)/\w.cell? ⟨rb,o+6,I⟩=E (ak e.b3)
def ll(w:Z)(i:Nat)(e:qM):Z:=(w.alloc<|aj #[ao .i64 i] 3).alloc<|aj e.cells 173
def fR(f:Nat->N)(rb b i a:Nat)(e:qM):Nat->N:=mq (mq (mq (mq (mq (mq f 15<|ak O) 16<|ao .i64 i) 17<|m<|E ⟨rb,b+i*7,I⟩) 18<|.agg e.cells) 7<|m<|E ⟨a,0,I⟩) 8<|m<|E ⟨a+1,0,I⟩
section
variable{ok:iO}{J:mh}{j:Nat}{ρ0:iI}{wh:Z}{ba:List U}{s:Sn}{f:U}{p pb cv gv:N}{rb ro n c i:Nat}{fv:Nat->N}
def Qb(g:qV W J j)(F:Fits ok W)(C:oq ok W)(ht:ok.jX=1000000){b:qM}(hi:i<n)(o:xX wh rb (ro+i*7) b)(h:qm ok W J j ρ0 wh 0 nj ba ((base 109).at ⟨sT p (A (E ⟨rb,ro,I⟩) n c) pb cv gv n i fv,[]⟩<|z lb::KL) s f)(sl:Option<|Nat×Nat):∃s' ah k f',ki W s sl s' ah/\qm ok W J j k (ll wh i b) 0 nj ba ((base 109).at ⟨sT p (A (E ⟨rb,ro,I⟩) n c) pb cv gv n i<|fR fv rb ro i wh.heap.size b,[]⟩<|V (opsOf r6) [0]::K6) s' f'/\ρ0.le k:=by
 have ne:nj≠CTag.blk:=by simp
 have B:=C.jS;have hb:∃fn,Tryz.prog.funcs[(base 109).fn]?=E fn:=⟨_,bO⟩;have CB:=DG ok.gs;have al:=blank ht;obtain⟨e0,e1,e2,e3,e4,e5,e6⟩:=o;rw[MF]at h;obtain⟨s1,P,ar,f1,q1,h1,l1⟩:=oZ g F B ne h rfl (lz trivial) sl;obtain⟨s2,y,au,f2,a2,q2,h2,l2,x2⟩:=Da (X:=λa=>a=⟨sT p (A (E ⟨rb,ro,I⟩) n c) pb cv gv n i<|mq fv 15<|ak O,[]⟩) (wh':=wh) g F C ne (pO al CB.1) hb (λv d=>iM (Mt p _ pb cv gv n i fv<|wh.re v d) λe a w l=>⟨l.1,by grind,l.2.2⟩) h1 P;subst x2;obtain⟨s3,M,an,f3,q3,h3,l3⟩:=oZ g F B ne h2 (fr1:=(base 109).at ⟨sT p (A (E ⟨rb,ro,I⟩) n c) pb cv gv n i<|mq fv 15<|ak O,[]⟩<|z (aN (.tmp 15) bw<|bn 0)::z (ae (aJ 1<|ae r5<|ae r6 r7) r8)::KL) rfl (lz trivial) y;obtain⟨s4,ac,ao,f4,q4,h4,l4⟩:=oZ g F B ne h3 (fr1:=(base 109).at ⟨sT p (A (E ⟨rb,ro,I⟩) n c) pb cv gv n i<|mq fv 15<|ak O,[]⟩<|z bw::z (ae (aJ 1<|ae r5<|ae r6 r7) r8)::KL) rfl (lz trivial) M;obtain⟨s5,T,am,f5,q5,h5,l5⟩:=oZ g F B ne h4 (fr1:=(base 109).at ⟨sT p (A (E ⟨rb,ro,I⟩) n c) pb cv gv n i<|mq fv 15<|ak O,[]⟩<|z (ae (aJ 1<|ae r5<|ae r6 r7) r8)::KL) rfl (lz trivial) ac;obtain⟨s6,ai,ax,f6,q6,h6,l6⟩:=oZ g F B ne h5 (fr1:=(base 109).at ⟨sT p (A (E ⟨rb,ro,I⟩) n c) pb cv gv n i<|mq fv 15<|ak O,[]⟩<|z (aJ 1<|ae r5<|ae r6 r7)::z r8::KL) rfl (lz trivial) T;obtain⟨s7,ad,ap,f7,q7,h7,l7⟩:=oZ g F B ne h6 (fr1:=(base 109).at ⟨sT p (A (E ⟨rb,ro,I⟩) n c) pb cv gv n i<|mq fv 15<|ak O,[]⟩<|z (ae r5<|ae r6 r7)::aI 1::z r8::KL) rfl (lz trivial) ai;obtain⟨s8,aa,aw,f8,q8,h8,l8⟩:=oZ g F B ne h7 rfl (lz trivial) ad;obtain⟨s9,x,aq,f9,a9,q9,h9,l9,x9⟩:=Da (X:=λa=>a=⟨sT p (A (E ⟨rb,ro,I⟩) n c) pb cv gv n i<|fR fv rb ro i wh.heap.size b,[]⟩) (wh':=ll wh i b) g F C ne (pO al CB.2.1) hb (λv d=>iM (abU p pb cv gv rb ro n c i (mq fv 15<|ak O) (wh.re v d) b.iz b.read b.b0 b.b1 b.b2 b.b3 hi b.ka b.kn b.kc e0 e1 e2 e3 e4 e5 e6) λe a w l=>⟨l.1,l.2.1,l.2.2⟩) h8 aa;subst x9;obtain⟨av,q,aj,f10,R,L,A8⟩:=oZ g F B ne h9 (fr1:=(base 109).at ⟨sT p (A (E ⟨rb,ro,I⟩) n c) pb cv gv n i<|fR fv rb ro i wh.heap.size b,[]⟩<|z r6::z r7::aI 1::z r8::KL) rfl (lz trivial) x;obtain⟨G,r,t,S,Q,D,H⟩:=oZ g F B ne L rfl (lz trivial) q;exact⟨G,r,t,S,(((q1.trans q2).trans<|q3.trans q4).trans<|(q5.trans q6).trans<|q7.trans q8).trans<|(q9.trans R).trans Q,D,(((l1.trans l2).trans<|l3.trans l4).trans<|(l5.trans l6).trans<|l7.trans l8).trans<|(l9.trans A8).trans H⟩
end
end
end Go.Proofs.YtldeiiffabfmeaaGreatDoor
