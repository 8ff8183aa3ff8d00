/- - -/
import Derived.Conc.Beside
import Derived.Conc.Listed
import Derived.Conc.CrowdTrace
import Derived.Conc.CrowdStepW
import Derived.Test.YtldeiiffabfmeaaGreatDoorAgm
set_option linter.all false
set_option maxRecDepth 100000
set_option maxHeartbeats 4000000
open List renaming forall_mem_cons->ae,mem_singleton->bj,mem_cons_self->bl,mem_toArray->bM,nil_append->bU,headD_cons->bV,tail_cons->cx
open Go renaming World->ah,Frame->ai,Goroutine->aj,Program->an,Value->aK,undef->aP,Event->aU,Trace->bg,Deferred->bw,HappensBefore->bH,FuncId->bN,TypeId->bO,Addr->bX,PanicEntry->bY,Question->ck,CallKind->cA,FrameMode->cD,Machine->cO,MemOp->cQ
open Option renaming some->ak,map_eq_some_iff->ao,none->ax,map_some->bA
open Go.MemAct renaming ofEvent->aq,touch?->az
open Go.MemOp renaming ofEvents->ar
open Go.Conc renaming mem_ofEvents->au,Deaf_other->aD,Deaf_own->cz,Deaf->cN,Goes->cR
open Go.Proofs.Tryz renaming prog->ay,f131->cF,func131->cJ
open Bool renaming false_eq_true->aA,false->aV,true->aX,not_true->bu
open Array renaming getElem?_setIfInBounds_ne->aE,getD_eq_getD_getElem?->aG,getElem?_eq_some_iff->aH,getElem?_eq_getElem->aI,getElem?_setIfInBounds_self_of_lt->aQ,mem_of_getElem?->aY,getElem?_map->bm,empty_append->bJ,mem_append->bQ
open Option.some renaming injEq->aF,inj->aJ
open Go.Stepped.next renaming injEq->aM
open Nat renaming le_trans->aN,strongRecOn->bz,le_refl->bF,eq_zero_or_pos->bI,lt_of_not_le->bP,lt_or_ge->cG
open Classical renaming byContradiction->aW,not_forall->bE,propDecidable->cE
open Go.stepG renaming exec->aZ,apply->bR,oper->cj
open Go.Question renaming forced->bd
open Go.Frame renaming finish->bh,raise->bB,oper?->bT,eval->cg
open Go.Loc renaming low->bn
open Go.ConcR renaming Payload->bq,again_blocked->cH
open Go.Sem renaming pure->bC,runT->bD,runT_fst->bK
open Go.ConcN renaming WgLive->bG,CTag->cT,Mode->cU
namespace Go.Rel
section
open Go.Conc(G)
variable{ok:ja}{ρ ρ':iR}{P:an}
inductive Safe(ok:ja)(P:an)(S:List ai->ah->Prop):List ai->ah->Prop|stop{l:List ai}{w:ah}(h:S l w):Safe ok P S l w|step{l:List ai}{w:ah}(hd:sE ok P l)(h:∀τ d,∃l' w' es,(own P l).runT P (w.re τ d) #[]=(.ok l' w',es))(hs:∀τ d l' w' es,(own P l).runT P (w.re τ d) #[]=(.ok l' w',es)->Safe ok P S l' w'):Safe ok P S l w
def iJ:ai:={fn:=0,tmps:=#[],todo:=[.code (.refuse "")],defers:=[{target:=.nil,args:=#[]}],mode:=.run,kind:=.normal}
theorem J7{fr:ai}{cs:List ai}{w w':ah}{o:Outcome}(h:(stepG P aX (G fr cs) w).bare=.ended o w')(k:Nat)(m:cO):runN P (k+1) (lone fr cs w)≠.next m:=by simp only[runN];rw[step_lone_ended (P:=P) (fr:=fr) (cs:=cs) (w:=w) h];simp
theorem Fu{fr fr':ai}{cs cs':List ai}{w w':ah}(h:lone fr cs w=lone fr' cs' w'):fr=fr'/\cs=cs'/\w=w':=by simp only[lone,Machine.mk.injEq,Array.mk.injEq,List.cons.injEq,Goroutine.mk.injEq,and_true]at h;exact⟨h.2.1,h.2.2,h.1⟩
def JG(P:an)(m:cO):Prop:=∀k fr w,runN P k m=.next (lone fr [iJ] w)->∃c,fr.mode=.panicking c
theorem ahP(v:aK)(w:ah):JG P (lone (iJ.finish v) [] w):=by intro k fr w' h;cases k with|zero=>simp only[runN,aM]at h;have:=(Fu h).2.1;cases this|succ k=>exact absurd h (J7 (P:=P) (by simp[G,stepG,aZ,iJ,bh];exact⟨rfl,rfl⟩) k _)
theorem VN(c:List bY)(w:ah):JG P (lone (iJ.raise c) [] w):=by intro k fr w' h;cases k with|zero=>simp only[runN,aM]at h;have:=(Fu h).2.1;cases this|succ k=>exact absurd h (J7 (P:=P) (by simp[G,stepG,unwind,callDeferred,iJ,bB];exact⟨rfl,rfl⟩) k _)
theorem Zr(f:ai)(c:List bY):(∃a,(f.raise c).mode=.panicking a)/\(f.raise c).defers=f.defers/\(f.raise c).fn=f.fn:=by unfold bB;split<;>exact⟨⟨_,rfl⟩,rfl,rfl⟩
theorem Ss{X:List ai}(e:∀f∈X,f.defers=[]/\∃fn,P.funcs[f.fn]?=ak fn):∀{fr:ai}{c:List bY}{w:ah},fr.mode=.panicking c->fr.defers=[]->(∃fn,P.funcs[fr.fn]?=ak fn)->JG P (lone fr (X++[iJ]) w):=by induction X with|nil=>intro fr c w a hd d k fr' w' h;(cases k with|zero=>simp only[runN,aM]at h;exact⟨c,(Fu h).1▸a⟩|succ k=>simp only[runN,bU]at h;rw[step_leave_panicked (chain:=c) ⟨a,hd,d⟩]at h;exact VN c w k fr' w' h)|cons f X j=>intro fr c w a hd d k fr' w' h;cases k with|zero=>simp only[runN,aM]at h;exact⟨c,(Fu h).1▸a⟩|succ k=>simp only[runN,List.cons_append]at h;rw[step_leave_panicked (chain:=c) ⟨a,hd,d⟩]at h;have b:=e f (by simp);obtain⟨⟨o,m⟩,n,i⟩:=Zr f c;exact j (λg l=>e g (by simp[l])) m (n.trans b.1) (i▸b.2) k fr' w' h
theorem nF.plain{l b:List ai}(hF:tK ok P l)(h:nF ok P ρ l b):∀f∈l,f.defers=[]/\∃fn,P.funcs[f.fn]?=ak fn:=by
 have hd:∀f∈l,f.defers=[]:=by clear hF;induction h with|one h=>intro f a;simp only[bj]at a;subst a;exact h.defers|cons h d hs c=>exact ae.2 ⟨h.defers,c⟩
 exactλf a=>⟨hd f a,(hF f a).1⟩
theorem tK.finish{f:ai}{l:List ai}(h:tK ok P (f::l))(v:aK):tK ok P (f.finish v::l):=by have a:=h f (by simp);refine ae.2 ⟨?_,λg b=>h g (by simp[b])⟩;obtain⟨fn,tmps,todo,defers,mode,kind,round⟩:=f;cases todo with|nil=>exact a|cons it k=>cases it with|inRegion ops l=>(cases l with|nil=>exact a|cons i rest=>exact⟨a.1,ae.2 ⟨a.2.1 (.inRegion ops (i::rest)) (by simp),λx d=>a.2.1 x (by simp[d])⟩,a.2.2⟩)|code c=>exact a|inBlock id=>exact a|inLoop c=>exact a|_=>exact(a.2.1 _ (bl ..)).elim
theorem acB(F:Fits ok P)(C:pP ok P){l Q:List ai}(M:nF ok P ρ l Q)(L:qv ok ρ){w O:ah}(H:jQ ok ρ w O)(hF:tK ok P l){l1:List ai}{w1:ah}{es:Array aU}(d:(own P l).runT P w #[]=(.ok l1 w1,es)):tK ok P l1:=by cases l with|nil=>cases d|cons fr cs=>(have D:∃f',n6 ok P ρ fr f':=by cases M with|one h=>exact⟨_,h⟩|cons h=>exact⟨_,h⟩);obtain⟨f',D⟩:=D;have s:=hF fr (by simp);have u:tK ok P cs:=λf h=>hF f (by simp[h]);(have fin:∀{v:aK}{w2:ah}{p:Array aU},(bC (bh fr v::cs)).runT P w2 p=(.ok l1 w1,es)->tK ok P l1:=by intro v w2 p h;cases h;exact hF.finish v);obtain⟨fn,tmps,todo,defers,mode,kind,round⟩:=fr;(have jM:∀{k:List Item}{m:cD}{w2:ah}{p:Array aU},(∀i∈k,zm ok P i)->(m=.run\/m=.returning)->(bC (⟨fn,tmps,k,defers,m,kind,round⟩::cs)).runT P w2 p=(.ok l1 w1,es)->tK ok P l1:=by intro k m w2 p hk N h;cases h;exact ae.2 ⟨⟨s.1,hk,N⟩,u⟩);unfold own at d;simp only at d;cases mode with|panicking c=>cases d|returning=>(cases cs with|nil=>cases d|cons c cs=>cases G:P.funcs[fn]? with|none=>rw[G]at d;cases d|some f=>rw[G]at d;simp only at d;rw[ot]at d;cases K:(results f tmps).runT P w #[]with|mk r z=>rw[K]at d;cases r with|halt x w2=>cases d|ok v w2=>cases d;exact u.finish v)|run=>have j:=s.2.1;simp only at j;cases todo with|nil=>exact jM (by simp) (.inr rfl) d|cons it k=>have g:=j it (bl ..);have hk:∀i∈k,zm ok P i:=λi hi=>j i (List.mem_cons_of_mem _ hi);cases it with|code c=>(cases c with|skip=>exact jM hk (.inl rfl) d|ret=>exact jM j (.inr rfl) d|seq a b=>exact jM (k:=.code a::.code b::k) (ae.2 ⟨g.1,ae.2 ⟨g.2,hk⟩⟩) (.inl rfl) d|block id b=>exact jM (k:=.code b::.inBlock id::k) (ae.2 ⟨g,ae.2 ⟨trivial,hk⟩⟩) (.inl rfl) d|loop b=>exact jM (k:=.code b::.inLoop b::k) (ae.2 ⟨g,ae.2 ⟨g,hk⟩⟩) (.inl rfl) d|cond c x y=>simp only at d;split at d;(·rename_i b _;exact jM (k:=.code (if b=aX then x else y)::k) (ae.2 ⟨by cases b;exact g.2.2;exact g.2.1,hk⟩) (.inl rfl) d);·cases d|exit id=>simp only at d;split at d;(·rename_i e;exact jM (OL hk e) (.inl rfl) d);·cases d|region id ops q=>simp only at d;(cases q with|false=>exact jM (k:=.inRegion ops (List.range ops.size)::k) (ae.2 ⟨g,hk⟩) (.inl rfl) d|true=>simp only[bu,aA,if_false]at d;rw[ot]at d;simp only[choose,bD,bd,aA,if_false]at d;cases d;exact ae.2 ⟨⟨s.1,ae.2 ⟨g,hk⟩,.inl rfl⟩,u⟩)|_=>cases d)|inBlock id=>exact jM hk (.inl rfl) d|inLoop b=>exact jM (k:=.code b::.inLoop b::k) (ae.2 ⟨g,ae.2 ⟨g,hk⟩⟩) (.inl rfl) d|inRegion ops l=>(cases l with|nil=>exact jM hk (.inl rfl) d|cons i rest=>simp only at d;cases E:ops[i]? with|none=>rw[E]at d;exact fin d|some o=>rw[E]at d;simp only at d;split at d;(·rw[ot]at d;have t:=IZ F C.jV H.inj (DC (fr:=⟨fn,tmps,.inRegion ops (i::rest)::k,defers,.run,kind,round⟩) L D.tmps) (g o (aY E));cases ex:(execOp (cg ⟨fn,tmps,.inRegion ops (i::rest)::k,defers,.run,kind,round⟩) o).runT P w #[]with|mk r z=>rw[ex]at d;cases r with|halt x w2=>cases d|ok n w2=>have J:=Cb (P:=P) _ (esa:=#[]) t (H.re w.tape w.tape w.drawn w.drawn) ex (λi hi=>rfl);obtain⟨ρ1,b,I,es',_,B,_⟩:=J;cases B with|value S=>exact fin d|skip=>exact fin d|enter A R=>cases d;exact ae.2 ⟨aiv C A _ _ (bj.2 rfl),hF⟩);·exact fin d)|_=>cases d
theorem XW(F:Fits ok P)(C:pP ok P){fr:ai}{X:List ai}{l':List ai}(R:nF ok P ρ (fr::X) l')(hF:tK ok P (fr::X))(S:qv ok ρ){w Y:ah}(M:jQ ok ρ w Y){h:Halt}{w1:ah}{es:Array aU}(d:(own P (fr::X)).runT P w #[]=(.halt h w1,es)):∀k fr' w',runN P (k+1) (lone fr (X++[iJ]) w)=.next (lone fr' [iJ] w')->∃c,fr'.mode=.panicking c:=by
 have t:h.fair:=by have:=Jl (P:=P) (own P (fr::X)) (Bx F C.jV M.inj S R hF.head) M w.tape w.drawn #[] _ _ d;exact this
 have E:=R.plain hF;have L:=hF fr (by simp);have W:∀f∈X,f.defers=[]/\∃fn,P.funcs[f.fn]?=ak fn:=λf hf=>E f (by simp[hf]);have D:∃f',n6 ok P ρ fr f':=by cases R with|one h=>exact⟨_,h⟩|cons h=>exact⟨_,h⟩
 obtain⟨f',D⟩:=D;obtain⟨I,j⟩:=(E fr (by simp)).2;have e:∀{o:Outcome}{w2:ah},(stepG P aX (G fr (X++[iJ])) w).bare=.ended o w2->∀k fr' w',runN P (k+1) (lone fr (X++[iJ]) w)=.next (lone fr' [iJ] w')->∃c,fr'.mode=.panicking c:=λhe k fr' w' h=>absurd h (J7 he k _);obtain⟨fn,tmps,todo,defers,mode,kind,round⟩:=fr;have e1:=D.round;have e2:=D.defers;have e3:=D.kind;simp only at e1 e2 e3 j;subst e1 e2 e3;rcases L.2.2 with J|J;·simp only at J;subst J;unfold own at d;simp only at d;have p:=L.2.1;simp only at p;cases todo with|nil=>cases d|cons it k=>have A:=p it (bl ..);cases it with|code c=>(cases c with|skip=>cases d|ret=>cases d|seq a b=>cases d|block id b=>cases d|loop b=>cases d|cond c x y=>simp only at d;(cases V:cg ⟨fn,tmps,.code (.cond c x y)::k,[],.run,.normal,ax⟩ c with|bool b=>rw[V]at d;cases d|_=>exact e (by simp[G,stepG,aZ,V];exact⟨rfl,rfl⟩))|exit id=>simp only at d;(cases ex:exitTo id k with|some T=>rw[ex]at d;cases d|none=>exact e (by simp[G,stepG,aZ,ex];exact⟨rfl,rfl⟩))|region id ops K=>simp only at d;(cases K with|false=>cases d|true=>simp only[bu,aA,if_false]at d;rw[ot]at d;simp only[choose,bD,bd,aA,if_false]at d;cases d)|refuse m=>exact e (by simp[G,stepG,aZ];exact⟨rfl,rfl⟩)|_=>exact A.elim)|inBlock id=>cases d|inLoop b=>cases d|inRegion ops l=>(cases l with|nil=>cases d|cons i rest=>simp only at d;cases B:ops[i]? with|none=>rw[B]at d;cases d|some o=>rw[B]at d;simp only at d;cases H:Region.wanted o (yielded ops tmps)with|false=>rw[H]at d;cases d|true=>rw[H]at d;simp only[if_true]at d;rw[ot]at d;have O:=IZ F C.jV M.inj (DC (fr:=⟨fn,tmps,.inRegion ops (i::rest)::k,[],.run,.normal,ax⟩) S D.tmps) (A o (aY B));cases ex:(execOp (cg ⟨fn,tmps,.inRegion ops (i::rest)::k,[],.run,.normal,ax⟩) o).runT P w #[]with|mk r N=>rw[ex]at d;have z:=congrArg Prod.fst ex;rw[bK]at z;simp only at z;cases r with|ok n w2=>have Z:=Cb (P:=P) _ (esa:=#[]) O (M.re w.tape w.tape w.drawn w.drawn) ex (λi hi=>rfl);obtain⟨ρ1,b,aa,es',_,Q,_⟩:=Z;(cases Q with|value=>cases d|skip=>cases d|enter=>cases d)|halt x w2=>simp only[Prod.mk.injEq,Result.halt.injEq]at d;obtain⟨⟨rfl,rfl⟩,rfl⟩:=d;cases x with|panic v=>intro T fr' w' h;simp only[runN]at h;rw[step_lone_go (fr':=bB ⟨fn,tmps,.inRegion ops (i::rest)::k,[],.run,.normal,ax⟩ [{v,recovered:=aV}]) (cs':=X++[iJ]) (w':=w2) (by simp[stepG,aZ,cj,bR,bT,B,H,z])]at h;exact Ss W (fr:=bB ⟨fn,tmps,.inRegion ops (i::rest)::k,[],.run,.normal,ax⟩ [{v,recovered:=aV}]) rfl rfl ⟨I,j⟩ T fr' w' h|stuck s=>exact e (by simp[G,stepG,aZ,cj,bR,bT,B,H,z];exact⟨rfl,rfl⟩)|unsupported u=>(cases u with|initOrder g=>exact t.elim|_=>exact e (by simp[G,stepG,aZ,cj,bR,bT,B,H,z];exact⟨rfl,rfl⟩))|_=>exact t.elim)|_=>exact A.elim
 ·simp only at J;subst J;unfold own at d;simp only at d;cases U:(results I tmps).runT P w #[]with|mk r N=>have q:=congrArg Prod.fst U;rw[bK]at q;simp only at q;cases r with|halt x w2=>(cases x with|stuck s=>exact e (by simp[G,stepG,unwind,j,q];exact⟨rfl,rfl⟩)|_=>exact e (by simp[G,stepG,unwind,j,q];exact⟨rfl,rfl⟩))|ok v w2=>cases X with|cons c cs=>simp only[j]at d;rw[ot,U]at d;cases d|nil=>intro k fr' w' h;simp only[runN,bU]at h;rw[step_lone_go (fr':=iJ.finish v) (cs':=[]) (w':=w2) (by simp[stepG,unwind,j,q,doReturn])]at h;exact ahP v w2 k fr' w' h
end
section
open Go.Conc(G)
variable{ok:ja}{ρ ρ':iR}{P:an}{S:List ai->ah->Prop}
def Self(ok:ja)(P:an)(l:List ai)(w:ah):Prop:=tK ok P l/\∃(ρ:iR)(la:List ai)(a:ah),nF ok P ρ l la/\jQ ok ρ w a/\qv ok ρ
theorem Self.re{l:List ai}{w:ah}(h:Self ok P l w)(a:Nat->ck->Nat)(d:Nat):Self ok P l (w.re a d):=let⟨hF,ρ,la,c,b,f,e⟩:=h;⟨hF,ρ,la,c,b,f.yB a d,e⟩
theorem Self.step(F:Fits ok P)(C:pP ok P){l e:List ai}{w w':ah}{es:Array aU}(h:Self ok P l w)(j:(own P l).runT P w #[]=(.ok e w',es)):Self ok P e w':=by obtain⟨hF,ρ,la,n,f,d,c⟩:=h;obtain⟨ρ',b,a,es',m,k,g⟩:=Cb (P:=P) _ (esa:=#[]) (Bx F C.jV d.inj c f hF.head) (d.re w.tape w.tape w.drawn w.drawn) j (λi hi=>rfl);exact⟨acB F C f c d hF j,ρ',b,a,k,g.rel,c.mono g.le⟩
theorem Self.local(F:Fits ok P)(C:pP ok P){l:List ai}{w:ah}(h:Self ok P l w):Local P (own P l) w:=by obtain⟨hF,ρ,la,d,b,a,c⟩:=h;exact Jl _ (Bx F C.jV a.inj c b hF.head) a
theorem Self.cons{l:List ai}{w:ah}(h:Self ok P l w):∃fr X,l=fr::X:=by obtain⟨hF,ρ,la,b,a,_⟩:=h;cases a with|one=>exact⟨_,_,rfl⟩|cons=>exact⟨_,_,rfl⟩
def vN(l:List ai)(w:ah):cO:=lone (l.headD iJ) (l.tail++[iJ]) w
theorem Zd{l b:List ai}{w w':ah}{es:Array aU}(h:Self ok P l w)(d:(own P l).runT P w #[]=(.ok b w',es)):Go.step P (vN l w)=.next (vN b w'):=by
 obtain⟨fr,X,rfl⟩:=h.cons;obtain⟨hF,ρ,la,e,c,_⟩:=h;have a:∃f',n6 ok P ρ fr f':=by cases c with|one h=>exact⟨_,h⟩|cons h=>exact⟨_,h⟩
 obtain⟨f',a⟩:=a;obtain⟨g,cs',rfl,hs⟩:=HT aX [iJ] a.round (by rw[a.kind];simp) (λ_=>⟨a.defers,a.kind⟩) d;exact step_lone_go (by have:=congrArg GStep.bare hs;simpa[G]using this)
def IL(P:an)(S:List ai->ah->Prop)(l:List ai)(w:ah):Prop:=∀a d,∃n fr' w',runN P n (vN l (w.re a d))=.next (lone fr' [iJ] w')/\S [fr'] w'
structure og(ok:ja)(P:an)(S:List ai->ah->Prop)where
 l:List ai
 w:ah
 self:Self ok P l w
 bad:¬Safe ok P S l w
def Mc(s:og ok P S)(a:Nat->ck->Nat)(d:Nat):Option (og ok P S)->Prop|ak s'=>∃es,(own P s.l).runT P (s.w.re a d) #[]=(.ok s'.l s'.w,es)|ax=>∀b w' es,(own P s.l).runT P (s.w.re a d) #[]≠(.ok b w',es)
theorem Io(F:Fits ok P)(C:pP ok P)(s:og ok P S):∃a d o,Mc s a d o:=by
 by_cases h:∀a d,∃b w' es,(own P s.l).runT P (s.w.re a d) #[]=(.ok b w',es);·have:¬∀a d b w' es,(own P s.l).runT P (s.w.re a d) #[]=(.ok b w',es)->Safe ok P S b w':=λhs=>s.bad (.step s.self.1.head h hs);simp only[bE]at this;obtain⟨a,d,b,w',es,c,e⟩:=this;exact⟨a,d,ak ⟨b,w',(s.self.re a d).step F C c,e⟩,es,c⟩
 ·simp only[bE]at h;obtain⟨a,d,h⟩:=h;exact⟨a,d,ax,λb w' es c=>h ⟨b,w',es,c⟩⟩
section
variable(F:Fits ok P)(C:pP ok P)
noncomputable def tp(s:og ok P S):Nat->ck->Nat:=(Io F C s).choose
noncomputable def dp(s:og ok P S):Nat:=(Io F C s).choose_spec.choose
noncomputable def nx(s:og ok P S):Option (og ok P S):=(Io F C s).choose_spec.choose_spec.choose
theorem QV(s:og ok P S):Mc s (tp F C s) (dp F C s) (nx F C s):=(Io F C s).choose_spec.choose_spec.choose_spec
noncomputable def cnt(s:og ok P S):Nat:=match nx F C s with|ak s'=>s'.w.drawn-dp F C s|ax=>0
noncomputable def it(s:og ok P S):Nat->Option (og ok P S)|0=>ak s|i+1=>(it s i).bind (nx F C)
noncomputable def off(s:og ok P S):Nat->Nat|0=>0|i+1=>off s i+((it F C s i).map (cnt F C)).getD 0
theorem ZX(s:og ok P S){i j:Nat}(h:i<=j):off F C s i<=off F C s j:=by induction h with|refl=>exact bF _|step _ a=>exact aN a (by simp only[off];omega)
theorem P9(s:og ok P S){i:Nat}{u:og ok P S}(h:it F C s i=ak u):off F C s (i+1)=off F C s i+cnt F C u:=by simp[off,h]
theorem acC(s:og ok P S){i j:Nat}(h:i<j){u v:og ok P S}(a:it F C s i=ak u)(c:it F C s j=ak v):nx F C u≠ax:=by
 intro b;have:∀k,it F C s (i+1+k)=ax:=by intro k;induction k with|zero=>show(it F C s i).bind (nx F C)=ax;rw[a];exact b|succ k d=>show(it F C s (i+1+k)).bind (nx F C)=ax;rw[d];rfl
 have e:=this (j-(i+1));rw[show i+1+(j-(i+1))=j by omega,c]at e;cases e
theorem SF(s:og ok P S){n:Nat}(h:it F C s n=ax):∃i u,i<n/\it F C s i=ak u/\nx F C u=ax:=by induction n with|zero=>cases h|succ n b=>cases e:it F C s n with|none=>obtain⟨i,u,f,c,d⟩:=b e;exact⟨i,u,by omega,c,d⟩|some u=>exact⟨n,u,by omega,e,by have a:(it F C s n).bind (nx F C)=ax:=h;rw[e]at a;exact a⟩
def At(s:og ok P S)(n i:Nat)(u:og ok P S):Prop:=it F C s i=ak u/\off F C s i<=n/\(n<off F C s i+cnt F C u\/nx F C u=ax)
noncomputable def tape(s:og ok P S)(n:Nat):ck->Nat:=have:Decidable (∃i u,At F C s n i u):=cE _;if h:∃i u,At F C s n i u then tp F C h.choose_spec.choose (dp F C h.choose_spec.choose+(n-off F C s h.choose))elseλ_=>0
theorem agW(s:og ok P S){n i j:Nat}{u v:og ok P S}(a:At F C s n i u)(b:At F C s n j v):i=j/\u=v:=by
 have key:∀{i j:Nat}{u v:og ok P S},At F C s n i u->At F C s n j v->¬i<j:=by intro i j u v a b c;have d:=acC F C s c a.1 b.1;have f:=a.2.2.resolve_right d;have e:=ZX F C s (show i+1<=j from c);rw[P9 F C s a.1]at e;have:=b.2.1;omega
 have d:=key a b;have f:=key b a;have:i=j:=by omega
 subst this;refine⟨rfl,?_⟩;have:=a.1;rw[b.1]at this;exact(aJ this).symm
theorem OP(s:og ok P S){i k:Nat}{u:og ok P S}(d:it F C s i=ak u)(hk:k<cnt F C u\/nx F C u=ax):tape F C s (off F C s i+k)=tp F C u (dp F C u+k):=by have b:At F C s (off F C s i+k) i u:=⟨d,by omega,hk.imp (λx=>by omega) id⟩;have a:∃c u',At F C s (off F C s i+k) c u':=⟨i,u,b⟩;unfold tape;simp only[dif_pos a];obtain⟨e1,e2⟩:=agW F C s a.choose_spec.choose_spec b;rw[e2,e1];congr 1;omega
theorem OB(s:og ok P S):∀i u,it F C s i=ak u->runN P i (vN s.l (s.w.re (tape F C s) 0))=.next (vN u.l (u.w.re (tape F C s) (off F C s i))):=by intro i;induction i with|zero=>intro u m;cases m;rfl|succ i o=>intro u' c;cases e:it F C s i with|none=>have a:(it F C s i).bind (nx F C)=ak u':=c;rw[e]at a;cases a|some u=>(have g:nx F C u=ak u':=by have a:(it F C s i).bind (nx F C)=ak u':=c;rw[e]at a;exact a);have b:=QV F C u;rw[g]at b;obtain⟨es,j⟩:=b;have hloc:=(u.self).local F C (tp F C u) (dp F C u) #[] _ _ j;obtain⟨p,q,n⟩:=hloc;(have d:cnt F C u=u'.w.drawn-dp F C u:=by simp[cnt,g]);obtain⟨h,f,-⟩:=n (tape F C s) (off F C s i) (λk hk=>OP F C s e (.inl (by rw[d];omega))) #[];rw[<-d,<-P9 F C s e]at f;rw[runN_add P i 1,o u e];simp only[runN];rw[Zd (u.self.re _ _) f]
end
theorem QD(F:Fits ok P)(C:pP ok P)(D:∀l w E d,Self ok P l w->S l w->S l (w.re E d))(H:∀fr w,S [fr] w->fr.mode=.run\/fr.mode=.returning){l:List ai}{w:ah}(a:Self ok P l w)(h:IL P S l w):Safe ok P S l w:=by refine aW λj=>?_;let s:og ok P S:=⟨l,w,a,j⟩;obtain⟨n,fr',w',o,hs⟩:=h (tape F C s) 0;cases e:it F C s n with|some u=>have m:=OB F C s n u e;rw[show vN s.l (s.w.re (tape F C s) 0)=vN l (w.re (tape F C s) 0)from rfl,o]at m;simp only[aM]at m;obtain⟨e1,e2,e3⟩:=Fu m;obtain⟨fr,X,b⟩:=u.self.cons;rw[b]at e1 e2;simp only[bV,cx]at e1 e2;(have K:X=[]:=by have:=congrArg List.length e2;simp at this;exact this);subst K e1 e3;refine u.bad (.stop ?_);rw[b];have:=D _ _ u.w.tape u.w.drawn (by have:=u.self.re (tape F C s) (off F C s n);rw[b]at this;exact this) hs;exact this|none=>obtain⟨i,u,hi,A,y⟩:=SF F C s e;have m:=OB F C s i u A;rw[show n=i+((n-i-1)+1)by omega,runN_add,show vN l (w.re (tape F C s) 0)=vN s.l (s.w.re (tape F C s) 0)from rfl,m]at o;obtain⟨fr,X,b⟩:=u.self.cons;obtain⟨hF,ρ,la,L,z,J,I⟩:=u.self;have f:=QV F C u;rw[y]at f;cases p:(own P u.l).runT P (u.w.re (tape F C s) (off F C s i)) #[]with|mk r es=>cases r with|ok M q=>have hloc:=u.self.local F C (tape F C s) (off F C s i) #[] _ _ p;obtain⟨_,_,g⟩:=hloc;obtain⟨G,B,_⟩:=g (tp F C u) (dp F C u) (λk hk=>(OP F C s A (.inr y)).symm) #[];exact f _ _ _ B|halt x q=>rw[b]at p z hF;simp only[vN,b,bV,cx]at o;obtain⟨c,v⟩:=XW F C z hF I (J.yB _ _) p _ _ _ o;rcases H _ _ hs with t|t<;>rw[t]at v<;>cases v
end
section
open Go.Conc Go.ConcN
variable{ok:ja}{ρ ρ':iR}{P:an}{S:List ai->ah->Prop}
inductive Fs(ok:ja)(P:an)(ρ:iR):List ai->List ai->Prop|nil:Fs ok P ρ [] []|cons{f f':ai}(h:n6 ok P ρ f f')(hp:Plain f'){l l':List ai}(hs:Fs ok P ρ l l'):Fs ok P ρ (f::l) (f'::l')
theorem Fs.mono(d:ρ.le ρ'){l a:List ai}(h:Fs ok P ρ l a):Fs ok P ρ' l a:=by induction h with|nil=>exact .nil|cons h b _ c=>exact .cons (h.mono d) b c
theorem Fs.append{l a m m':List ai}(h:Fs ok P ρ l a)(g:Fs ok P ρ m m'):Fs ok P ρ (l++m) (a++m'):=by induction h with|nil=>exact g|cons h b _ c=>exact .cons h b c
theorem Fs.parts{l m:List ai}:∀{x:List ai},Fs ok P ρ (l++m) x->∃a m',x=a++m'/\Fs ok P ρ l a/\Fs ok P ρ m m':=by induction l with|nil=>intro x h;exact⟨[],x,rfl,.nil,h⟩|cons f l d=>intro x h;cases h with|cons h b hs=>obtain⟨a,m',rfl,e,c⟩:=d hs;exact⟨_::a,m',rfl,.cons h b e,c⟩
theorem Fs.II{l a:List ai}(h:Fs ok P ρ l a)(ne:l≠[]):nF ok P ρ l a:=by induction h with|nil=>exact absurd rfl ne|cons h b hs e=>cases hs with|nil=>exact .one h|cons f c d=>exact .cons h b (e (by simp))
theorem nF.fs{l a:List ai}(h:nF ok P ρ l a)(c:∀f∈a,Plain f):Fs ok P ρ l a:=by induction h with|one h=>exact .cons h (c _ (by simp)) .nil|cons h b hs e=>exact .cons h b (e λf d=>c f (by simp[d]))
theorem Fs.plain{l a:List ai}(h:Fs ok P ρ l a):∀f∈a,Plain f:=by induction h with|nil=>simp|cons h b _ c=>exact ae.2 ⟨b,c⟩
theorem Fs.ghost{l a:List ai}(h:Fs ok P ρ l a):∀f∈l,f.defers=[]/\f.kind=.normal:=by induction h with|nil=>simp|cons h c _ b=>exact ae.2 ⟨⟨h.defers,h.kind⟩,b⟩
theorem Fs.ne{l a:List ai}(h:Fs ok P ρ l a)(ne:l≠[]):∃f x,a=f::x:=by cases h with|nil=>exact absurd rfl ne|cons=>exact⟨_,_,rfl⟩
theorem QE{l e:List ai}{w w':ah}{es:Array aU}(u:∀f∈l,Plain f)(d:(own P l).runT P w #[]=(.ok e w',es)):∀f∈e,Plain f:=by cases l with|nil=>cases d|cons fr cs=>have j:=u fr (by simp);have s:∀f∈cs,Plain f:=λf h=>u f (by simp[h]);obtain⟨fn,tmps,todo,defers,mode,kind,round⟩:=fr;have one:∀{g:ai},Plain g->∀f∈g::cs,Plain f:=λD=>ae.2 ⟨D,s⟩;(have jM:∀{k:List Item}{m:cD},(bC (⟨fn,tmps,k,defers,m,kind,round⟩::cs)).runT P w #[]=(.ok e w',es)->∀f∈e,Plain f:=by intro k m h;cases h;exact one ⟨j.defers,j.kind⟩);(have fin:∀{v:aK}{w2:ah}{p:Array aU},(bC (bh ⟨fn,tmps,todo,defers,mode,kind,round⟩ v::cs)).runT P w2 p=(.ok e w',es)->∀f∈e,Plain f:=by intro v w2 p h;cases h;exact one (j.finish _));unfold own at d;simp only at d;cases mode with|panicking c=>cases d|returning=>(cases cs with|nil=>cases d|cons c cs=>cases A:P.funcs[fn]? with|none=>rw[A]at d;cases d|some f=>rw[A]at d;simp only at d;rw[ot]at d;cases C:(results f tmps).runT P w #[]with|mk r t=>rw[C]at d;cases r with|halt x w1=>cases d|ok v w1=>cases d;exact ae.2 ⟨(s c (by simp)).finish _,λf h=>s f (by simp[h])⟩)|run=>cases todo with|nil=>exact jM d|cons it k=>cases it with|code c=>(cases c with|skip=>exact jM d|ret=>exact jM d|seq a b=>exact jM d|block id b=>exact jM d|loop b=>exact jM d|cond c x y=>simp only at d;split at d;(·exact jM d);·cases d|exit id=>simp only at d;split at d;(·exact jM d);·cases d|region id ops q=>simp only at d;(cases q with|false=>exact jM d|true=>simp only[bu,aA,if_false]at d;rw[ot]at d;simp only[choose,bD,bd,aA,if_false]at d;cases d;exact one ⟨j.defers,j.kind⟩)|_=>cases d)|inBlock id=>exact jM d|inLoop b=>exact jM d|inRegion ops l=>(cases l with|nil=>exact jM d|cons i rest=>simp only at d;cases z:ops[i]? with|none=>rw[z]at d;exact fin d|some o=>rw[z]at d;simp only at d;split at d;(·rw[ot]at d;generalize(execOp _ o).runT P w #[]=B at d;obtain⟨r,t⟩:=B;cases r with|halt x w1=>cases d|ok n w1=>cases n with|value v=>exact fin d|skip=>exact fin d|enter f args=>cases d;exact ae.2 ⟨⟨rfl,rfl⟩,one j⟩|_=>cases d);·exact fin d)|_=>cases d
def uu(ok:ja)(P:an)(l:List ai)(w:ah):Prop:=∃(a:iR)(la:List ai)(b:ah),Fs ok P a l la/\jQ ok a w b/\qv ok a
theorem uu.self{l m:List ai}{w:ah}(h:uu ok P (l++m) w)(hF:tK ok P l)(ne:l≠[]):Self ok P l w:=let⟨e,_,d,a,f,b⟩:=h;let⟨c,_,_,k1,_⟩:=a.parts;⟨hF,e,c,d,k1.II ne,f,b⟩
structure sj(ok:ja)(P:an)(ρ:iR)(l:List ai)(wh:ah)(gs:Array aj)(w:ah)(t:bg)(q:Nat->Nat)(Shun:Loc->Prop):Prop where
 ne:l≠[]
 g0:∃la,gs[0]?=some (G (la.headD iJ) la.tail)/\Fs ok P ρ l la
 lv:Leavers P t gs q
 Cf:Past Shun w.heap.size t
 rF:jQ ok ρ wh w
 lU:qv ok ρ
 Gy:∀b b',ρ b b'->(∀a:bX,a.block=b'->¬Shun (.cell a))/\¬Shun (.obj b')
 low:∀x,Shun x->x.low w.heap.size
 iZ:∀b',b'<ok.old.heap.size->w.heap[b']?=ok.old.heap[b']?
 u7:∀b b',ρ b b'->b'<ok.old.heap.size->lH wh b
theorem sj.self{l:List ai}{wh:ah}{gs:Array aj}{w:ah}{t:bg}{q:Nat->Nat}{Shun:Loc->Prop}(h:sj ok P ρ l wh gs w t q Shun):uu ok P l wh:=let⟨la,_,a⟩:=h.g0;⟨ρ,la,w,a,h.rF,h.lU⟩
theorem SP{Shun:Loc->Prop}{n:Nat}(h:∀x,Shun x->x.low n){b:Nat}(c:n<=b):(∀a:bX,a.block=b->¬Shun (.cell a))/\¬Shun (.obj b):=⟨λa d hs=>by have:=h _ hs;simp only[bn]at this;omega,λhs=>by have:=h _ hs;simp only[bn]at this;omega⟩
theorem Sb{w wh:ah}{Shun:Loc->Prop}(l:jQ ok ρ wh w)(hs:∀b i,ρ b i->(∀a:bX,a.block=i->¬Shun (.cell a))/\¬Shun (.obj i)){e:aU}(h:wU ρ wh e):EvL Shun w.heap.size e:=by obtain⟨j,wr,p⟩:=e;cases j with|cell a=>obtain⟨g,b,c,o⟩:=h;simp only at g c;subst g;exact evL_cell a wr ((hs _ _ c).1 a rfl) (l.lt c).2|obj r=>obtain⟨g,b,c,o⟩:=h;simp only at g c;subst g;(have e:aq ⟨.obj r,wr,aV⟩=.access ⟨.obj r,wr,aV⟩:=by cases wr<;>rfl);refine⟨λx d k=>?_,by simp,by simp,?_⟩;(·rw[e]at d;simp only[az,aF]at d;subst d;exact absurd k (hs _ _ c).2);·rw[e];exact(l.lt c).2|mark m=>have n:m.bare:=h;(cases m with|extern f=>exact⟨λx d=>by simp[aq,az]at d,by simp,by simp,trivial⟩|noRoom=>exact⟨λx d=>by simp[aq,az]at d,by simp,by simp,trivial⟩|_=>exact n.elim)|_=>exact h.elim
theorem ahu(F:Fits ok P)(B:nC ok P)(base:List ai){l:List ai}{wh:ah}(h:∀τ d,∃l' w' es,(own P l).runT P (wh.re τ d) #[]=(.ok l' w',es))(ne:l≠[])(hd:sE ok P l):∀{ρ:iR}{gs:Array aj}{w:ah}{sl:Option (Nat×Nat)}{t:bg}{q:Nat->Nat}{Shun:Loc->Prop},sj ok P ρ (l++base) wh gs w t q Shun->∃N ρ' O w' u t' q' l' wh' τ d es,runNT P N (crowd gs w sl) t=(.next (crowd O w' u),t')/\(own P l).runT P (wh.re τ d) #[]=(.ok l' wh',es)/\sj ok P ρ' (l'++base) wh' O w' t' q' Shun/\ρ.le ρ'/\l'≠[]/\(∀b f,ρ' b f->ρ b f\/w.heap.size<=f)/\w.heap.size<=w'.heap.size/\O.size=gs.size:=by intro ρ gs w sl t q Shun c;generalize hM:sumTo gs.size q=M;induction M using bz generalizing gs w sl t q with|_ M al=>obtain⟨aG,aB,aa⟩:=c.g0;obtain⟨la,ba,rfl,z,av⟩:=aa.parts;obtain⟨fr,X,rfl⟩:=z.ne ne;have h0:gs[0]?=ak (G fr (X++ba)):=aB;(have aq:∀g∈gs,awake g:=by intro g V;obtain⟨i,hi,rfl⟩:=Array.mem_iff_getElem.1 V;rcases bI i with rfl|v;(·(have:gs[0]=G fr (X++ba):=by simpa[aI hi]using h0);rw[this];exact awake_of (.inl rfl));·exact awake_of ((c.lv.old i _ v (aI hi)).status.elim .inl λx=>.inr (.inr x)));obtain⟨i,g,d,u,hi,V,ad⟩:=crowd_pick (P:=P) (w:=w) (sl:=sl) aq ⟨0,_,h0,rfl⟩;rcases bI i with rfl|v;(·(obtain rfl:g=G fr (X++ba):=by rw[h0]at hi;exact(aJ hi).symm);obtain⟨l1,w1,es,hr⟩:=h w.tape d;have hW:jQ ok ρ (wh.re w.tape d) (w.at d):=⟨c.rF.inj,c.rF.gs,c.rF.zero,c.rF.obj,c.rF.out⟩;have hL:=z.II ne;obtain⟨ρ1,b,D,es',g1,g2,n⟩:=Cb (P:=P) _ (esa:=#[]) (Bx F B c.rF.inj c.lU hL hd) hW hr (λi hi=>rfl);have az:=QE z.plain g1;simp only[bJ]at g1;(have J:n6 ok P ρ (l.headD iJ) fr:=by cases z with|cons h hp hs=>exact h);have W:=z.plain fr (by simp);obtain⟨gf,cs',rfl,aA⟩:=HT aX ba J.uK J.early (λ_=>W) g1;have s:=runT_crowd_go (P:=P) (sl:=u) (i:=0) hi (show stepG P (0==0) (G fr (X++ba)) (w.at d)=_ from aA);have C:0<gs.size:=(aH.1 h0).1;(have H:((gs.map (woken P (G fr (X++ba)) (G gf (cs'++ba)) D)).setIfInBounds 0 (G gf (cs'++ba))).size=gs.size:=by simp);(have K:∀b f,ρ1 b f->(∀a:bX,a.block=f->¬Shun (.cell a))/\¬Shun (.obj f):=by intro b f p;rcases n.new p with p|⟨_,p⟩;(·exact c.Gy b f p);·exact SP c.low p);have L:=g2.fs az;(have ac:l1≠[]:=by intro e;subst e;cases L);(have R:sj ok P ρ1 (l1++base) w1 ((gs.map (woken P (G fr (X++ba)) (G gf (cs'++ba)) D)).setIfInBounds 0 (G gf (cs'++ba))) D (t++ar 0 fr.fn fr.place (seen P fr.fn es')) q Shun:=by refine⟨by simp[ac],⟨(gf::cs')++ba,by simp[C],L.append (av.mono n.le)⟩,⟨λj x E r=>?_,λj E=>?_⟩,?_,n.rel,c.lU.mono n.le,K,λx r=>Loc.low_mono n.xN (c.low x r),λf m=>?_,λb f p m=>?_⟩;(·(have Q:0≠j:=by omega);rw[aE Q,bm]at r;obtain⟨y,hy,rfl⟩:=ao.1 r;have U:=c.lv.old j y E hy;rw[woken_quitsD U,aD t (by omega) _ (λop o=>by obtain⟨e,_,rfl⟩:=au o;rfl)];exact U);(·rw[aD t (g':=0) (by simp at E;omega) _ (λop o=>by obtain⟨e,_,rfl⟩:=au o;rfl)];exact c.lv.above j (by simpa using E));(·exact(c.Cf.mono n.xN).own λe he=>Sb n.rel K (n.ev e (by simpa using mem_seen he)));(·(have I:f<(w.at d).heap.size:=by have:=c.iZ f m;rw[aI m]at this;exact(aH.1 this).1);refine Eq.trans ?_ (c.iZ f m);by_cases r:∃b,ρ b f;(·obtain⟨b,r⟩:=r;exact(n.shut b (c.u7 b f r m)).2 f r);·exact n.out f I λb p=>r ⟨b,p⟩);·(have I:f<(w.at d).heap.size:=by have:=c.iZ f m;rw[aI m]at this;exact(aH.1 this).1);rcases n.new p with p|⟨_,p⟩;(·exact(c.u7 b f p m).congr (n.shut b (c.u7 b f p m)).1);·omega);refine⟨1,ρ1,_,D,u,_,q,l1,w1,w.tape,d,es,?_,hr,R,n.le,ac,λb f p=>(n.new p).imp id λx=>x.2,n.xN,H⟩;simp only[runNT,ad,s];rfl);·have U:=c.lv.old i g v hi;(have am:(i==0)=aV:=by simp;omega);have C:i<gs.size:=(aH.1 hi).1;cases T:q i with|zero=>rw[T]at U;rw[U.1]at V;cases V|succ k=>rw[T]at U;rcases U with⟨hf,_⟩|⟨_,g',es,hm,Z,aw⟩;(·rw[hf]at V;cases V);have s:=runT_crowd_go (P:=P) (sl:=u) (i:=i) hi (by rw[am];exact Z (w.at d));(have H:((gs.map (woken P g g' (w.at d))).setIfInBounds i g').size=gs.size:=by simp);(have aF:sumTo gs.size (upd q i k)+(k+1)=sumTo gs.size q+k:=by have:=sumTo_upd q k id C;simpa[T]using this);(have R:sj ok P ρ (l++base) wh ((gs.map (woken P g g' (w.at d))).setIfInBounds i g') (w.at d) (t++ar i g.frame.fn g.frame.place es) (upd q i k) Shun:=by refine⟨c.ne,⟨(fr::X)++ba,?_,aa⟩,⟨λj x E r=>?_,λj E=>?_⟩,c.Cf.mute (by omega) hm,⟨c.rF.inj,c.rF.gs,c.rF.zero,c.rF.obj,c.rF.out⟩,c.lU,c.Gy,c.low,c.iZ,c.u7⟩;(·(have Q:i≠0:=by omega);rw[aE Q,bm,h0];simp[woken_run (show(G fr (X++ba)).status=.running from rfl)]);(·by_cases A:i=j;(·subst A;rw[aQ (by simpa using C)]at r;obtain rfl:=aJ r;rw[upd_same,cz];exact aw);·rw[aE A,bm]at r;obtain⟨y,hy,rfl⟩:=ao.1 r;have Y:=c.lv.old j y E hy;rw[woken_quitsD Y,upd_ne q k (Ne.symm A),aD t A _ (λop o=>by obtain⟨e,_,rfl⟩:=au o;rfl)];exact Y);·rw[aD t (g':=i) (by simp at E;omega) _ (λop o=>by obtain⟨e,_,rfl⟩:=au o;rfl)];exact c.lv.above j (by simpa using E));obtain⟨N,ae,ax,w2,an,t2,q2,l2,aC,ay,d2,ap,r1,r2,r3,r4,r5,r6,r7,r8⟩:=al (sumTo gs.size (upd q i k)) (by omega) (sl:=u) R (by rw[H]);refine⟨N+1,ae,ax,w2,an,t2,q2,l2,aC,ay,d2,ap,?_,r2,r3,r4,r5,r6,r7,r8.trans H⟩;simp only[runNT,ad,s];exact r1
theorem T4(F:Fits ok P)(B:nC ok P)(base:List ai){l:List ai}{wh:ah}(hs:Safe ok P S l wh):∀{ρ:iR}{gs:Array aj}{w:ah}{sl:Option (Nat×Nat)}{t:bg}{q:Nat->Nat}{Shun:Loc->Prop},l≠[]->sj ok P ρ (l++base) wh gs w t q Shun->∃N ρ' a w' j p r m wh',runNT P N (crowd gs w sl) t=(.next (crowd a w' j),p)/\sj ok P ρ' (m++base) wh' a w' p r Shun/\ρ.le ρ'/\m≠[]/\S m wh'/\(∀b c,ρ' b c->ρ b c\/w.heap.size<=c)/\w.heap.size<=w'.heap.size/\a.size=gs.size:=by induction hs with|stop h=>intro ρ gs w sl t q Shun ne k;exact⟨0,ρ,gs,w,sl,t,q,_,_,rfl,k,iR.le.refl _,ne,h,λ_ _ h=>.inl h,bF _,rfl⟩|@step l wh hd h hs z=>intro ρ gs w sl t q Shun ne k;obtain⟨N,ρ1,C,w1,f,t1,q1,l1,wh1,s,d,es,r1,r2,r3,r4,r5,r6,r7,r8⟩:=ahu F B base h ne hd (sl:=sl) k;obtain⟨x,o,i,w2,g,t2,q2,A,n,k1,k2,k3,k4,k6,u,y,v⟩:=z s d _ _ _ r2 (sl:=f) r5 r3;refine⟨N+x,o,i,w2,g,t2,q2,A,n,?_,k2,r4.trans k3,k4,k6,λb c e=>?_,aN r7 y,v.trans r8⟩;(·rw[runNT_add,r1];exact k1);·rcases u b c e with e|e;(·exact r6 b c e);·exact .inr (by omega)
end
section
open Go.Conc Go.ConcN
structure Tl(Sh Old:Loc->Prop)(jS:Nat->Prop)(Own Rd:Nat->Loc->Prop)(t:bg):Prop where
 quiet:Quiet Sh t
 own:∀g,jS g->∀l,Own g l->Perm t g l
 rd:∀g,jS g->∀l,Rd g l->PermW t g l
 free:∀l,l.isMemory=true->¬Sh l->¬Old l->(∀g,jS g->¬Own g l/\¬Rd g l)->Perm t 0 l
 mine:∀l,l.isMemory=true->¬Sh l->¬Old l->(∀g,jS g->¬Own g l)->PermW t 0 l
 old:∀i a,touchAt t i=some a->a.loc.isMemory=true->Old a.loc->Knows t 0 i\/a.kind=.atomic
 nr:∀said,¬Race said t
structure GG(Sh Old:Loc->Prop)(jS:Nat->Prop)(Own Rd:Nat->Loc->Prop):Prop where
 own:∀g g' l,jS g->jS g'->Own g l->Own g' l->g=g'
 ownRd:∀g g' l,jS g->jS g'->Own g l->¬Rd g' l
 ownSh:∀g l,jS g->Own g l->¬Sh l/\¬Old l/\l.isMemory=true
 rdSh:∀g l,jS g->Rd g l->¬Sh l/\¬Old l/\l.isMemory=true
 aaM:∀l,Old l->¬Sh l
 pos:∀g,jS g->g≠0
section
variable{Sh Old:Loc->Prop}{jS:Nat->Prop}{Own Rd:Nat->Loc->Prop}{t u:bg}
def Aw(Sh Old:Loc->Prop)(jS:Nat->Prop)(Own Rd:Nat->Loc->Prop)(op:cQ):Prop:=op.g=0/\∀x,op.act.touch?=ak x->(Sh x.loc/\x.kind≠.plain)\/(¬Sh x.loc/\(Old x.loc->x.kind≠.plain)/\(∀g,jS g->¬Own g x.loc)/\(x.write=aX->∀g,jS g->¬Rd g x.loc))
def GA(Sh:Loc->Prop)(Own Rd:Nat->Loc->Prop)(g:Nat)(op:cQ):Prop:=op.g=g/\∀x,op.act.touch?=ak x->(Sh x.loc/\x.kind≠.plain/\x.kind≠.said)\/Own g x.loc\/(Rd g x.loc/\x.write=aV)
theorem Tl.app0(A:GG Sh Old jS Own Rd)(h:Tl Sh Old jS Own Rd t)(m:∀op∈u,Aw Sh Old jS Own Rd op):Tl Sh Old jS Own Rd (t++u):=by
 refine⟨h.quiet.app λop c x z hs=>?_,λg j l f=>(h.own g j l f).app λop c b v e=>?_,λg j l f=>(h.rd g j l f).app λop c b v e F=>?_,λl o hs p f=>(h.free l o hs p f).app λop c _ _ _=>(m op c).1,λl o hs p f=>(h.mine l o hs p f).app λop c _ _ _ _=>(m op c).1,λi a q o p=>?_,λw=>?_⟩;·rcases(m op c).2 x z with⟨_,hk⟩|⟨s,_⟩;(·exact⟨hk,λ_=>(m op c).1⟩);·exact absurd hs s
 ·rcases(m op c).2 b v with⟨hs,_⟩|⟨_,_,s,_⟩;(·exact absurd (e▸hs) (A.ownSh g l j f).1);·exact absurd (e▸f) (s g j)
 ·rcases(m op c).2 b v with⟨hs,_⟩|⟨_,_,_,s⟩;(·exact absurd (e▸hs) (A.rdSh g l j f).1);·exact absurd (e▸f) (s F g j)
 ·obtain⟨x,z,B⟩:=touch_of q;rcases getElem?_append_cases z with⟨_,C⟩|⟨_,D⟩;(·exact(h.old i a (by rw[touchAt_of C];exact B) o p).imp (·.app u) id);·have:=knows_own z;rw[(m x D).1]at this;exact .inl this
 ·refine noRace_append (h.nr w) (λop c=>(m op c).1) (λi a q op c b v n=>?_);rcases(m op c).2 b v with⟨hs,hk⟩|⟨hs,p,y,E⟩;(·exact h.quiet.known hs hk (λ_=>rfl) i a q n);·by_cases k:Old b.loc;(·rcases h.old i a q n.2.1 (n.1▸k)with hk|hk;(·exact hk);·obtain⟨_,_,_,d⟩:=n;rw[hk]at d;rcases d with x|x|⟨_,x,_⟩;(·cases x);(·exact absurd x (p k));·cases x);·have o:b.loc.isMemory=aX:=n.1▸n.2.1;cases r:b.write with|true=>exact h.free b.loc o hs k (λg j=>⟨y g j,E r g j⟩) i a q n.1|false=>exact h.mine b.loc o hs k y i a q n.1 (n.2.2.1.resolve_right (by simp[r]))
theorem Tl.appW(A:GG Sh Old jS Own Rd)(h:Tl Sh Old jS Own Rd t){g:Nat}(k:jS g)(o:∀op∈u,GA Sh Own Rd g op):Tl Sh Old jS Own Rd (t++u):=by
 refine⟨h.quiet.app λop c x D hs=>?_,λg' f l j=>(h.own g' f l j).app λop c b n e=>?_,λg' f l j=>(h.rd g' f l j).app λop c b n e q=>?_,λl w hs d j=>(h.free l w hs d j).app λop c b n e=>?_,λl w hs d j=>(h.mine l w hs d j).app λop c b n e q=>?_,λi a s w d=>?_,λv=>?_⟩;·rcases(o op c).2 x D with⟨_,hk,F⟩|d|⟨m,_⟩;(·exact⟨hk,λe=>absurd e F⟩);(·exact absurd hs (A.ownSh g _ k d).1);·exact absurd hs (A.rdSh g _ k m).1
 ·rcases(o op c).2 b n with⟨hs,_⟩|d|⟨m,_⟩;(·exact absurd (e▸hs) (A.ownSh g' l f j).1);(·rw[(o op c).1];exact A.own g g' l k f (e▸d) j);·exact absurd (e▸m) (A.ownRd g' g l f k j)
 ·rcases(o op c).2 b n with⟨hs,_⟩|d|⟨_,m⟩;(·exact absurd (e▸hs) (A.rdSh g' l f j).1);(·exact absurd j (A.ownRd g g' l k f (e▸d)));·rw[m]at q;cases q
 ·rcases(o op c).2 b n with⟨p,_⟩|d|⟨m,_⟩;(·exact absurd (e▸p) hs);(·exact absurd (e▸d) (j g k).1);·exact absurd (e▸m) (j g k).2
 ·rcases(o op c).2 b n with⟨p,_⟩|d|⟨_,m⟩;(·exact absurd (e▸p) hs);(·exact absurd (e▸d) (j g k));·rw[m]at q;cases q
 ·obtain⟨x,D,r⟩:=touch_of s;rcases getElem?_append_cases D with⟨_,E⟩|⟨_,C⟩;(·exact(h.old i a (by rw[touchAt_of E];exact r) w d).imp (·.app u) id);·rcases(o x C).2 a r with⟨hs,_⟩|B|⟨B,_⟩;(·exact absurd hs (A.aaM _ d));(·exact absurd d (A.ownSh g _ k B).2.1);·exact absurd d (A.rdSh g _ k B).2.1
 ·refine noRace_append (h.nr v) (λop c=>(o op c).1) (λi a s op c b n y=>?_);rcases(o op c).2 b n with⟨hs,hk,F⟩|d|⟨m,z⟩;(·exact h.quiet.known hs hk (λe=>absurd e F) i a s y);(·exact h.own g k b.loc d i a s y.1);·exact h.rd g k b.loc m i a s y.1 (y.2.2.1.resolve_right (by simp[z]))
theorem Tl.appMute(h:Tl Sh Old jS Own Rd t){g:Nat}(w:∀op∈u,op.g=g)(v:∀op∈u,op.act.touch?=ax):Tl Sh Old jS Own Rd (t++u):=by
 have no:∀op∈u,∀b,op.act.touch?=ak b->False:=λop c b d=>by rw[v op c]at d;cases d
 refine⟨h.quiet.app λop c x p hs=>(no op c x p).elim,λg' j l f=>(h.own g' j l f).app λop c b d e=>(no op c b d).elim,λg' j l f=>(h.rd g' j l f).app λop c b d e z=>(no op c b d).elim,λl k hs n f=>(h.free l k hs n f).app λop c b d _=>(no op c b d).elim,λl k hs n f=>(h.mine l k hs n f).app λop c b d _ _=>(no op c b d).elim,λi a s k n=>?_,λm=>?_⟩;·obtain⟨x,p,o⟩:=touch_of s;rcases getElem?_append_cases p with⟨_,r⟩|⟨_,q⟩;(·exact(h.old i a (by rw[touchAt_of r];exact o) k n).imp (·.app u) id);·exact(no x q a o).elim
 ·exact noRace_append (h.nr m) w (λi a s op c b d y=>(no op c b d).elim)
theorem Tl.grow(h:Tl Sh Old jS Own Rd t){g0:Nat}{New:Loc->Prop}(j:∀i a,touchAt t i=ak a->¬New a.loc):Tl Sh Old jS (λg l=>Own g l\/(g=g0/\New l)) Rd t:=by
 refine⟨h.quiet,λg c l b=>?_,h.rd,λl d hs f b=>h.free l d hs f λg c=>⟨λx=>(b g c).1 (.inl x),(b g c).2⟩,λl d hs f b=>h.mine l d hs f λg c x=>b g c (.inl x),h.old,h.nr⟩;rcases b with b|⟨_,b⟩;·exact h.own g c l b
 ·exactλi a k e=>absurd (e▸b) (j i a k)
theorem Tl.fork{g0:Nat}(A:GG Sh Old (λg=>jS g\/g=g0) Own Rd)(h:Tl Sh Old jS Own Rd t)(B:¬jS g0){x y:cQ}(v:x.g=0/\x.act=.go g0)(s:y.g=g0/\y.act=.start)(D:cN t 0=0)(hk:cN t g0=0):Tl Sh Old (λg=>jS g\/g=g0) Own Rd (t++#[x,y]):=by
 have f:∀op∈#[x,y],∀b,op.act.touch?=ak b->False:=by intro op c b d;simp only[bM,List.mem_cons,List.not_mem_nil,or_false]at c;rcases c with rfl|rfl;(·rw[v.2]at d;cases d);·rw[s.2]at d;cases d
 have old:∀{i:Nat}{a:Touch},touchAt (t++#[x,y]) i=ak a->touchAt t i=ak a:=by intro i a o;obtain⟨z,E,r⟩:=touch_of o;rcases getElem?_append_cases E with⟨_,C⟩|⟨_,w⟩;(·rw[touchAt_of C];exact r);·exact(f z w a r).elim
 refine⟨h.quiet.app λop c b d _=>(f op c b d).elim,λg j l k=>?_,λg j l k=>?_,λl q hs n k=>(h.free l q hs n λg j=>k g (.inl j)).app λop c b d _=>(f op c b d).elim,λl q hs n k=>(h.mine l q hs n λg j=>k g (.inl j)).app λop c b d _ _=>(f op c b d).elim,λi a o q n=>(h.old i a (old o) q n).imp (·.app _) id,λp=>?_⟩;·obtain⟨s1,s2,s3⟩:=A.ownSh g l j k;rcases j with j|rfl;(·exact(h.own g j l k).app λop c b d _=>(f op c b d).elim);·exactλi a o e=>fork_knows v s D hk (h.free l s3 s1 s2 (λg' m=>⟨λn=>B (A.own g' _ l (.inl m) (.inr rfl) n k▸m),A.ownRd _ g' l (.inr rfl) (.inl m) k⟩) i a (old o) e)
 ·obtain⟨s1,s2,s3⟩:=A.rdSh g l j k;rcases j with j|rfl;(·exact(h.rd g j l k).app λop c b d _ _=>(f op c b d).elim);·exactλi a o e F=>fork_knows v s D hk (h.mine l s3 s1 s2 (λg' m n=>A.ownRd g' _ l (.inl m) (.inr rfl) n k) i a (old o) e F)
 ·(have e:t++#[x,y]=(t++#[x])++#[y]:=by apply Array.ext';simp);rw[e];refine noRace_append (g:=g0) (noRace_append (g:=0) (h.nr p) (λop c=>by simp at c;rw[c];exact v.1) (λi a _ op c b d _=>(f op (by simp at c⊢;exact .inl c) b d).elim)) (λop c=>by simp only[bM,bj]at c;rw[c];exact s.1) (λi a _ op c b d _=>(f op (by simp at c⊢;exact .inr c) b d).elim)
theorem Tl.begin{Shun:Loc->Prop}{B:Nat}(h:Past Shun B t)(g:∀i a,touchAt t i=ak a->¬Sh a.loc):Tl Sh Shun (λ_=>False) Own Rd t:=by
 refine⟨λi op x hi j hs=>absurd hs (g i x (by rw[touchAt_of hi];exact j)),λ_ f=>f.elim,λ_ f=>f.elim,λl c hs d _=>?_,λl c hs d _=>?_,λi a b c d=>(h.known i a b c).imp id (·.2),h.clean⟩;·exactλi a b e=>(h.known i a b (e▸c)).resolve_right λx=>d (e▸x.1)
 ·exactλi a b e _=>(h.known i a b (e▸c)).resolve_right λx=>d (e▸x.1)
end
structure Kn(Old:Loc->Prop)(jS:Nat->Prop)(t:bg):Prop where
 known:∀i a g,touchAt t i=some a->a.loc.isMemory=true->t.g? i=some g->jS g\/Knows t 0 i\/(Old a.loc/\a.kind=.atomic)
 over:∀i g,t.g? i=some g->g≠0->t.counts i->jS g\/∃j,t.g? j=some 0/\bH t i j
structure uj(Sh:Loc->Prop)(a:bX)(t:bg)(k r:Nat):Prop extends RelBy a t k r where
 qk:∀i x,r<i->t.g? i=some k->touchAt t i=some x->Sh x.loc
section
variable{Sh Old:Loc->Prop}{jS:Nat->Prop}{t u:bg}
theorem AX{t:bg}{i:Nat}{op:cQ}(h:t[i]?=ak op):t.g? i=ak op.g:=by simp[Trace.g?,h]
theorem Kn.begin{Shun:Loc->Prop}{B:Nat}(h:Past Shun B t):Kn Shun (λ_=>False) t:=⟨λi a g f b _=>.inr (h.known i a f b),λi g e c d=>.inr (h.over i g e c d)⟩
theorem Kn.mono{Wk':Nat->Prop}(h:Kn Old jS t)(c:∀g,jS g->Wk' g):Kn Old Wk' t:=⟨λi a g j d b=>(h.known i a g j d b).imp (c g) id,λi g b f e=>(h.over i g b f e).imp (c g) id⟩
theorem Kn.app(h:Kn Old jS t)(w:∀op∈u,op.g=0\/jS op.g\/op.act.touch?=ax):Kn Old jS (t++u):=by
 refine⟨λi a g A B m=>?_,λi g m v y=>?_⟩;·obtain⟨x,d,c⟩:=touch_of A;rcases getElem?_append_cases d with⟨hi,n⟩|⟨_,q⟩;(·exact(h.known i a g (by rw[touchAt_of n];exact c) B (by rw[<-g?_old (u:=u) hi];exact m)).imp id (Or.imp (·.app u) id));·(have e:g=x.g:=by have:=AX d;rw[m]at this;exact aJ this);rcases w x q with b|b|b;(·have:=knows_own d;rw[b]at this;exact .inr (.inl this));(·exact .inl (e▸b));·rw[b]at c;cases c
 ·obtain⟨x,d,p⟩:=y;obtain⟨op,l,k⟩:=touch_of d;rcases getElem?_append_cases l with⟨hi,s⟩|⟨_,f⟩;(·refine(h.over i g (by rw[<-g?_old (u:=u) hi];exact m) v ((counts_old hi).1 ⟨x,d,p⟩)).imp id λ⟨j,o,D⟩=>?_;(have r:j<t.size:=by unfold Trace.g? at o;obtain⟨z,C,_⟩:=ao.1 o;exact lt_size_of_getElem? C);exact⟨j,by rw[g?_old r];exact o,hb_app u D⟩);·(have e:g=op.g:=by have:=AX l;rw[m]at this;exact aJ this);rcases w op f with b|b|b;(·exact absurd (e.trans b) v);(·exact .inl (e▸b));·rw[b]at k;cases k
theorem uj.app{a:bX}{g r:Nat}(h:uj Sh a t g r)(n:∀op∈u,op.g=g->∀x,op.act.touch?=ak x->Sh x.loc)(m:∀i,t.size<=i->(t++u).g? i=ak g->¬(t++u).counts i):uj Sh a (t++u) g r:=by
 refine⟨h.toRelBy.app m,λi x hi k l=>?_⟩;obtain⟨op,c,d⟩:=touch_of l;rcases getElem?_append_cases c with⟨j,b⟩|⟨_,f⟩;·exact h.qk i x hi (by rw[<-g?_old (u:=u) j];exact k) (by rw[touchAt_of b];exact d)
 ·(have e:g=op.g:=by have:=AX c;rw[k]at this;exact aJ this);exact n op f e.symm x d
theorem afY{B:Nat}{a:bX}{q:Nat}(hk:Kn Old jS t)(K:∀g,jS g->g≠0)(all:∀g,jS g->∃r,uj Sh a t g r/\r<q)(F:NoRelease a t)(E:t.act? q=ak (.mark (.acquire a)))(w:t.g? q=ak 0)(D:t.heard q)(nr:∀o,¬Race o t)(hd:cN t 0=0)(G:∀op∈t,op.act.low B):Past (λl=>Old l\/Sh l) B t:=by
 have m:∀{g r:Nat},uj Sh a t g r->r<q->bH t r q:=λd b=>.single (.inr ⟨.marked b (.inr d.act) E (λk _ _=>F k),d.heard,D⟩);have upto:∀{g r i:Nat},uj Sh a t g r->r<q->t.g? i=ak g->i<=r->bH t i q:=by intro g r i d b e h;rcases cG i r with c|J;(·exact .trans (.single (.inl ⟨c,g,e,d.g⟩)) (m d b));·(obtain rfl:i=r:=by omega);exact m d b
 have v:∃z,t[q]?=ak z/\z.g=0:=by unfold Trace.g? at w;obtain⟨z,y,n⟩:=ao.1 w;exact⟨z,y,n⟩
 refine⟨nr,λi x p C=>?_,λi g e H A=>?_,hd,G⟩;·obtain⟨op,j,I⟩:=touch_of p;rcases hk.known i x op.g p C (AX j)with f|f|f;(·obtain⟨r,d,b⟩:=all _ f;by_cases h:i<=r;(·obtain⟨z,y,n⟩:=v;exact .inl ⟨q,z,y,n,.inr (upto d b (AX j) h)⟩);·(have c:r<i:=by omega);refine .inr ⟨.inr (d.qk i x c (AX j) p),?_⟩;refine aW λs=>d.after i c (AX j) ⟨x,p,C,.inl s⟩);(·exact .inl f);·exact .inr ⟨.inl f.1,f.2⟩
 ·rcases hk.over i g e H A with f|f;(·obtain⟨r,d,b⟩:=all _ f;have h:i<=r:=Nat.le_of_not_lt λc=>d.after i c e A;exact⟨q,w,upto d b e h⟩);·exact f
end
end
section
open Go.Conc Go.ConcN
variable{ok ok2:ja}{ρ ρ1 ρ2:iR}{P:an}
def tB(D:List bw)(k:cA):List ai->Prop|[]=>False|[f]=>f.defers=D/\f.kind=k|_::f::l=>tB D k (f::l)
theorem tB.top{D:List bw}{k:cA}{f f':ai}{l:List ai}(h:tB D k (f::l))(hd:f'.defers=f.defers)(hk:f'.kind=f.kind):tB D k (f'::l):=by cases l with|nil=>exact⟨hd.trans h.1,hk.trans h.2⟩|cons g l=>exact h
theorem GD(f:ai)(v:aK):(f.finish v).defers=f.defers/\(f.finish v).kind=f.kind:=by unfold bh;split<;>exact⟨rfl,rfl⟩
theorem acA{D:List bw}{q:cA}{l e:List ai}{w w':ah}{es:Array aU}(g:tB D q l)(d:(own P l).runT P w #[]=(.ok e w',es)):tB D q e:=by cases l with|nil=>cases d|cons fr cs=>obtain⟨fn,tmps,todo,defers,mode,kind,round⟩:=fr;(have jM:∀{k:List Item}{m:cD},(bC (⟨fn,tmps,k,defers,m,kind,round⟩::cs)).runT P w #[]=(.ok e w',es)->tB D q e:=by intro k m h;cases h;exact g.top rfl rfl);(have fin:∀{v:aK}{w2:ah}{p:Array aU},(bC (bh ⟨fn,tmps,todo,defers,mode,kind,round⟩ v::cs)).runT P w2 p=(.ok e w',es)->tB D q e:=by intro v w2 p h;cases h;exact g.top (GD _ _).1 (GD _ _).2);unfold own at d;simp only at d;cases mode with|panicking c=>cases d|returning=>(cases cs with|nil=>cases d|cons c cs=>cases u:P.funcs[fn]? with|none=>rw[u]at d;cases d|some f=>rw[u]at d;simp only at d;rw[ot]at d;cases A:(results f tmps).runT P w #[]with|mk r s=>rw[A]at d;cases r with|halt x w1=>cases d|ok v w1=>cases d;exact tB.top (f:=c) g (GD _ _).1 (GD _ _).2)|run=>cases todo with|nil=>exact jM d|cons it k=>cases it with|code c=>(cases c with|skip=>exact jM d|ret=>exact jM d|seq a b=>exact jM d|block id b=>exact jM d|loop b=>exact jM d|cond c x y=>simp only at d;split at d;(·exact jM d);·cases d|exit id=>simp only at d;split at d;(·exact jM d);·cases d|region id ops j=>simp only at d;(cases j with|false=>exact jM d|true=>simp only[bu,aA,if_false]at d;rw[ot]at d;simp only[choose,bD,bd,aA,if_false]at d;cases d;exact g.top rfl rfl)|_=>cases d)|inBlock id=>exact jM d|inLoop b=>exact jM d|inRegion ops l=>(cases l with|nil=>exact jM d|cons i rest=>simp only at d;cases t:ops[i]? with|none=>rw[t]at d;exact fin d|some o=>rw[t]at d;simp only at d;split at d;(·rw[ot]at d;generalize(execOp _ o).runT P w #[]=z at d;obtain⟨r,s⟩:=z;cases r with|halt x w1=>cases d|ok n w1=>cases n with|value v=>exact fin d|skip=>exact fin d|enter f args=>cases d;exact g|_=>cases d);·exact fin d)|_=>cases d
theorem abN(F:Fits ok P)(B:nC ok P)(c:Bool)(base:List ai){l la:List ai}{wh w:ah}(o:nF ok P ρ l la)(g:jQ ok ρ wh w)(z:qv ok ρ)(hd:sE ok P l)(h:∀C d,∃A w' es,(own P l).runT P (wh.re C d) #[]=(.ok A w',es))(d:Nat):∃ρ1 l1 w1 e fr X n cs' a es',la=fr::X/\(own P l).runT P (wh.re w.tape d) #[]=(.ok l1 w1,e)/\stepG P c (G fr (X++base)) (w.at d)=.go (G n (cs'++base)) a (seen P fr.fn es')/\nF ok P ρ1 l1 (n::cs')/\qY ok ρ ρ1 (wh.re w.tape d) w1 (w.at d) a es'/\∀D k,tB D k la->tB D k (n::cs'):=by
 obtain⟨l1,w1,e,s⟩:=h w.tape d;have p:jQ ok ρ (wh.re w.tape d) (w.at d):=⟨g.inj,g.gs,g.zero,g.obj,g.out⟩;obtain⟨ρ1,b,a,es',j,x,v⟩:=Cb (P:=P) _ (esa:=#[]) (Bx F B g.inj z o hd) p s (λi hi=>rfl);simp only[bJ]at j;obtain⟨fr,X,rfl⟩:∃fr X,la=fr::X:=by cases o with|one=>exact⟨_,_,rfl⟩|cons=>exact⟨_,_,rfl⟩
 have m:∃f,n6 ok P ρ f fr:=by cases o with|one h=>exact⟨_,h⟩|cons h=>exact⟨_,h⟩
 obtain⟨f0,t⟩:=m;have q:fr.mode=.returning->Plain fr:=by intro y;cases o with|cons _ E _=>exact E|one _=>unfold own at j;simp only[y]at j;cases j
 obtain⟨n,cs',rfl,r⟩:=HT c base t.uK t.early q j;exact⟨ρ1,l1,w1,e,fr,X,n,cs',a,es',rfl,s,r,x,v,λD k u=>acA u j⟩
section
variable{wh w1 wh2 w wa1:ah}{es:Array aU}
theorem Ld(D:qY ok ρ ρ1 wh w1 w wa1 es){a:Nat}(f:a<w.heap.size)(g:∀b,ρ b a->lH wh b):wa1.heap[a]?=w.heap[a]?:=by
 by_cases e:∃c,ρ c a;·obtain⟨c,d⟩:=e;exact(D.shut c (g c d)).2 a d
 ·exact D.out a f λc d=>e ⟨c,d⟩
end
def sH:Loc->Nat->Prop|.cell a,n=>a.block=n|.obj r,n=>r=n|_,_=>False
def Xz(ρ:iR)(wh:ah)(l:Loc):Prop:=∃b a,ρ b a/\sH l a/\¬lH wh b
def ZN(ρ:iR)(wh:ah)(l:Loc):Prop:=∃b a,ρ b a/\sH l a/\lH wh b
theorem PV{l:Loc}{n:Nat}(h:sH l n):l.isMemory=aX:=by cases l<;>first|rfl|exact h.elim
theorem G5{l:Loc}{n c:Nat}(h:sH l n)(b:sH l c):n=c:=by cases l with|cell a=>exact(show a.block=n from h).symm.trans b|obj r=>exact(show r=n from h).symm.trans b|_=>exact h.elim
theorem OX{w1:ah}{e:aU}(h:wU ρ w1 e){x:Touch}(d:(aq e).touch?=ak x):x.kind=.plain/\(Xz ρ w1 x.loc\/(ZN ρ w1 x.loc/\x.write=aV)):=by obtain⟨j,wr,l⟩:=e;cases j with|cell a=>obtain⟨i,b,c,g⟩:=h;simp only at i c g;subst i;simp only[aq,az,aF]at d;subst d;refine⟨rfl,?_⟩;by_cases hs:lH w1 b;(·exact .inr ⟨⟨b,a.block,c,rfl,hs⟩,by cases wr with|false=>rfl|true=>exact absurd hs (g rfl)⟩);·exact .inl ⟨b,a.block,c,rfl,hs⟩|obj r=>obtain⟨i,b,c,g⟩:=h;simp only at i c g;subst i;(have e:aq ⟨.obj r,wr,aV⟩=.access ⟨.obj r,wr,aV⟩:=by cases wr<;>rfl);rw[e]at d;simp only[az,aF]at d;subst d;refine⟨rfl,?_⟩;by_cases hs:lH w1 b;(·exact .inr ⟨⟨b,r,c,rfl,hs⟩,by cases wr with|false=>rfl|true=>exact absurd hs (g rfl)⟩);·exact .inl ⟨b,r,c,rfl,hs⟩|mark m=>have k:m.bare:=h;(cases m with|extern f=>simp[aq,az]at d|noRoom=>simp[aq,az]at d|_=>exact k.elim)|_=>exact h.elim
theorem WK{Sh Old:Loc->Prop}{jS:Nat->Prop}{Own Rd:Nat->Loc->Prop}{w1:ah}(d:∀b a,ρ b a->∀l,sH l a->¬Sh l/\¬Old l)(c:∀g,jS g->∀b a l,ρ b a->sH l a->¬Own g l/\(¬lH w1 b->¬Rd g l)){e:aU}(h:wU ρ w1 e)(fn:bN)(pos:String):Aw Sh Old jS Own Rd {g:=0,fn,pos,act:=.ofEvent e}:=by
 refine⟨rfl,λx k=>.inr ?_⟩;obtain⟨_,j⟩:=OX h k;have key:∃b a,ρ b a/\sH x.loc a/\(x.write=aX->¬lH w1 b):=by rcases j with⟨b,a,p,q,r⟩|⟨⟨b,a,p,q,_⟩,r⟩;(·exact⟨b,a,p,q,λ_=>r⟩);·exact⟨b,a,p,q,λc=>by rw[r]at c;cases c⟩
 obtain⟨b,a,p,q,r⟩:=key;obtain⟨s1,s2⟩:=d b a p x.loc q;exact⟨s1,λh=>absurd h s2,λg f=>(c g f b a x.loc p q).1,λi g f=>(c g f b a x.loc p q).2 (r i)⟩
end
section
open Go.Conc Go.ConcN Go.RowKit Go.Conc.Lib Go.ConcR.Gen Go.ConcN.Gen
open Go.ConcR(KK wgBlock WgAt stA smA rd wr mk Payload DC0)
variable[bq]{L:WgLink}{P:an}
def RA(ty:bO)(Wg:Nat)(w a:ah):Prop:=bG ty Wg w->bG ty Wg a
theorem iH{ty:bO}{Wg:Nat}{w a:ah}(h:bG ty Wg w)(r:RA ty Wg w a):bG ty Wg a:=r h
def ri(P:an)(m:Mark)(a:aj->ah->Prop)(g:aj)(w:ah):Prop:=g.status=.running/\∃g',stepG P aX g w=.go g' w #[mk m]/\a g' w
def mQ(P:an)(ty:bO)(Wg:Nat)(Stop:aj->ah->Prop)(g:aj)(w:ah):Prop:=∃m,cR P aX (RA ty Wg) DC0 Stop m g w
def LQ(P:an)(ty:bO)(Wg:Nat)(a:aj->ah->Prop)(g:aj)(w:ah):Prop:=g.status=.running/\∀v:Nat,v<2147483647->WgAt ty Wg w (v*KK) 0->∃g',stepG P aX g w=.go g' (w.setCell (stA Wg) (.int .u64 ((v+1)*KK))) #[rd (stA Wg),wr (stA Wg)]/\a g' (w.setCell (stA Wg) (.int .u64 ((v+1)*KK)))
omit[Payload]in theorem KD{a:Bool}{R:ah->ah->Prop}{D:ah->ah->Array aU->Prop}{S:aj->ah->Prop}{n b:Nat}{g:aj}{w:ah}(h:cR P a R D S n g w)(c:n<=b):cR P a R D S b g w:=by induction c with|refl=>exact h|step _ d=>exact d.more
end
section
open Go.Conc Go.ConcN
open Go.ConcR(KK wgBlock WgAt stA smA rd wr mk Payload DC0 Bk g_of_ofEvents)
structure Gh where
 ρ:iR
 l:List ai
 wh:ah
 bs:Nat
structure na where
 ty:bO
 Wg:Nat
 C:Nat
 R:Nat
 Mg:bO
 PL:Nat
 val:aK
 n0:Nat
 N0:Nat
 N1:Nat
 w1:ah
 Still:Nat->Prop
 Old:Loc->Prop
 ok:ja
 base:List ai
 defers:List bw
 kind:cA
 S:Nat->List ai->ah->Prop
 lo:Nat->Nat
 hi:Nat->Nat
 we:Nat->Gh->(Nat->Option aK)->Prop
section
variable[bq](J:na)
def tA(w:ah):Prop:=∃cs:Array aK,w.heap[J.R]?=ak (.cells cs J.Mg)/\cs.size=J.PL
def I4(w:ah):Prop:=w.heap[J.C]?=ak (.cells #[J.val] Payload.ety)
def rowOf(i:Nat)(w:ah)(o:Nat):Option aK:=if J.lo i<=o/\o<J.hi i then w.cell? ⟨J.R,o,ax⟩else ax
def Out(i:Nat)(E:Gh)(w:ah):Prop:=J.we i E (rowOf J i w)
structure RT(i:Nat)(w w₁:ah):Prop where
 live:bG J.ty J.Wg w->bG J.ty J.Wg w₁
 var:w₁.heap[J.C]?=w.heap[J.C]?
 row:tA J w->tA J w₁
 cells:∀o,J.lo i<=o->o<J.hi i->w₁.cell? ⟨J.R,o,none⟩=w.cell? ⟨J.R,o,none⟩
structure DT(i:Nat)(w w':ah)(es:Array aU):Prop where
 size:w'.heap.size=w.heap.size
 block:∀b,b≠J.R->w'.heap[b]?=w.heap[b]?
 row:tA J w->tA J w'
 cells:∀o,¬(J.lo i<=o/\o<J.hi i)->w'.cell? ⟨J.R,o,none⟩=w.cell? ⟨J.R,o,none⟩
 ev:∀e∈es,∃o wr,e=⟨.cell ⟨J.R,o,none⟩,wr,false⟩/\J.lo i<=o/\o<J.hi i
 os:w'.os=w.os
 output:w'.output=w.output
end
section
variable[bq]{J:na}{i:Nat}{w w₁ w₂:ah}
theorem RT.refl(w:ah):RT J i w w:=⟨id,rfl,id,λ_ _ _=>rfl⟩
theorem RT.trans(h:RT J i w w₁)(c:RT J i w₁ w₂):RT J i w w₂:=⟨c.live∘h.live,c.var.trans h.var,c.row∘h.row,λo a b=>(c.cells o a b).trans (h.cells o a b)⟩
theorem RT.at(w:ah)(d:Nat):RT J i w (w.at d):=⟨id,rfl,id,λ_ _ _=>rfl⟩
theorem RT.rw(h:RT J i w w₁):RW J.ty J.Wg J.C 1 0 0 w w₁:=⟨λb c=>absurd c (by omega),h.live,λ⟨cs,a,b⟩=>⟨cs,h.var.trans a,b⟩,cell_of_block h.var 0⟩
theorem agV(h:∀o,J.lo i<=o->o<J.hi i->w₁.cell? ⟨J.R,o,ax⟩=w.cell? ⟨J.R,o,ax⟩):rowOf J i w₁=rowOf J i w:=by
 funext o;unfold rowOf;split;·rename_i x;exact h o x.1 x.2
 ·rfl
theorem RT.out(h:RT J i w w₁){E:Gh}(a:Out J i E w):Out J i E w₁:=by unfold Out at*;rw[agV h.cells];exact a
end
inductive WS [bq](P:an)(J:na)(i:Nat)(E:Gh):Nat->Nat->Nat->Nat->aj->ah->Prop|pre{m:Nat}{g:aj}{w:ah}(hs:Safe J.ok P (J.S i) E.l E.wh)(h:cR P false (RW J.ty J.Wg J.C 1 0 0) DC0 (λg _=>∃f X,g=G f (X++J.base)/\nF J.ok P E.ρ E.l (f::X)/\tB J.defers J.kind (f::X)) m g w):WS P J i E 2 7 m 0 g w|gh{f:ai}{X:List ai}{w:ah}(hs:Safe J.ok P (J.S i) E.l E.wh)(h:nF J.ok P E.ρ E.l (f::X))(hb:tB J.defers J.kind (f::X)):WS P J i E 1 7 0 0 (G f (X++J.base)) w|tail{m:Nat}{g:aj}{w:ah}(h:cR P false (RT J i) (DT J i) (λg w=>AtR0 P J.ty J.Wg J.C 1 0 1 J.val g w/\Out J i E w) m g w):WS P J i E 0 7 m 0 g w|yf{s m d:Nat}{g:aj}{w:ah}(hs:s<=6)(h:WSit P J.ty J.Wg J.C 1 (λ_ _=>False) (λ_ _=>False) 0 1 J.val s m d g w):WS P J i E 0 s m d g w
section
variable[bq]{P:an}{J:na}{i:Nat}{E:Gh}{u s m d:Nat}{g:aj}{w w₁:ah}
theorem WS.rely(h:WS P J i E u s m d g w)(c:RT J i w w₁):WS P J i E u s m d g w₁:=by cases h with|pre hs h=>exact .pre hs (Goes.rely (λ_ _ _ a b=>a.trans b) h c.rw)|gh hs h e=>exact .gh hs h e|tail h=>exact .tail (Goes.rely (λ_ _ _ a b=>a.trans b) h c)|yf hs h=>exact .yf hs (h.rely c.rw)
theorem WS.status(h:WS P J i E u s m d g w):g.status=.running\/g.status=.finished:=by cases h with|pre hs h=>exact .inl (Goes.running (λg w⟨f,X,e,_⟩=>by rw[e];rfl) w (RW.refl w) h)|gh hs h a=>exact .inl rfl|tail h=>exact .inl (Goes.running (λg w x=>x.1.1) w (RT.refl w) h)|yf hs h=>exact h.status
theorem WS.woken(h:WS P J i E u s m d g w)(a a':aj)(w':ah):woken P a a' w' g=g:=by
 unfold Go.Conc.woken;split;·exact again_running _ h.status
 ·rfl
end
def zM(J:na)(j:Nat)(E:Nat->Gh)(g:Nat)(l:Loc):Prop:=∃i,i<j/\g=J.n0+i/\((∃b a,(E i).ρ b a/\(E i).bs<=a/\sH l a)\/∃o,l=.cell ⟨J.R,o,ax⟩/\J.lo i<=o/\o<J.hi i)
def zx(J:na)(j:Nat)(E:Nat->Gh)(g:Nat)(l:Loc):Prop:=∃i,i<j/\g=J.n0+i/\∃b a,(E i).ρ b a/\a<(E i).bs/\sH l a
def jS(J:na)(j g:Nat):Prop:=J.n0<=g/\g<J.n0+j
structure Stat(J:na):Prop where
 rw:J.R≠J.Wg
 cw:J.C≠J.Wg
 rc:J.R≠J.C
 apart:∀i i' o,J.lo i<=o->o<J.hi i->J.lo i'<=o->o<J.hi i'->i=i'
 J6:∀a:bX,a.block=J.Wg->¬J.Old (.cell a)
 Nq:∀l,sH l J.R->¬J.Old l
 low:∀l,J.Old l->l.low J.N0
 pos:0<J.n0
structure Mem [bq](ok:ja)(J:na)(j:Nat)(E:Nat->Gh)(ρ0:iR)(wh0 w:ah):Prop where
 mi:jQ ok ρ0 wh0 w
 vR:qv ok ρ0
 rel:∀i,i<j->jQ J.ok (E i).ρ (E i).wh w
 lU:∀i,i<j->qv J.ok (E i).ρ
 wZ:∀i,i<j->∀b b',(E i).ρ b b'->(E i).bs<=b'->(∀i',i'<j->i'≠i->∀c,¬(E i').ρ c b')/\∀c,¬ρ0 c b'
 xI:∀i,i<j->∀b b',(E i).ρ b b'->b'<(E i).bs->lH (E i).wh b
 tZ:∀i,i<j->∀b c b',ρ0 b b'->(E i).ρ c b'->lH wh0 b
 u7:∀b b',ρ0 b b'->b'<ok.old.heap.size->lH wh0 b
 pV:∀i,i<j->∀b b',(E i).ρ b b'->b'≠J.Wg/\b'≠J.R/\(b'=J.C->b'<(E i).bs)/\∀l,sH l b'->¬J.Old l
 rM:∀b b',ρ0 b b'->b'≠J.Wg/\b'≠J.R/\(b'=J.C->lH wh0 b)/\∀l,sH l b'->¬J.Old l
 uz:∀i,i<j->(E i).bs<=w.heap.size/\ok.old.heap.size<=(E i).bs
 lt:J.Wg<w.heap.size/\J.C<w.heap.size/\J.R<w.heap.size/\J.N0<=w.heap.size/\ok.old.heap.size<=J.Wg/\ok.old.heap.size<=J.R
 var:I4 J w
 row:tA J w
 iZ:∀b',b'<ok.old.heap.size->w.heap[b']?=ok.old.heap[b']?
 still:∀b',J.Still b'->w.heap[b']?=J.w1.heap[b']?/\b'≠J.Wg/\b'≠J.R/\b'<J.N1/\∀b,ρ0 b b'->lH wh0 b
 n1:J.N1<=w.heap.size/\∀i,i<j->J.N1<=(E i).bs
section
variable[bq]{ok:ja}{J:na}{j:Nat}{E:Nat->Gh}{ρ0:iR}{wh0 w:ah}
theorem Mem.Lb(X:Stat J)(h:Mem ok J j E ρ0 wh0 w):GG (ShN J.Wg) J.Old (jS J j) (zM J j E) (zx J j E):=by
 have same:∀{i n b:Nat}{k c:Nat},i<j->n<j->(E i).ρ b k->(E i).bs<=k->(E n).ρ c k->n=i:=by intro i n b k c hi f B H L;exact aW λG=>(h.wZ i hi b k B H).1 n f G c L
 have K:∀{i b o:Nat},i<j->¬(E i).ρ b J.R:=λhi B=>(h.pV _ hi _ _ B).2.1 rfl;refine⟨?_,?_,?_,?_,?_,?_⟩;·rintro g g' l _ _⟨i,hi,rfl,y⟩⟨n,f,rfl,O⟩;rcases y with⟨b,x,p,q,r⟩|⟨o,rfl,p,q⟩<;>rcases O with⟨c,F,v,D,z⟩|⟨Q,e,v,D⟩;(·obtain rfl:=G5 r z;rw[same hi f p q v]);(·subst e;obtain rfl:J.R=x:=r;exact absurd rfl (h.pV i hi _ _ p).2.1);(·obtain rfl:J.R=F:=z;exact absurd rfl (h.pV n f _ _ v).2.1);·simp only[Loc.cell.injEq,Addr.mk.injEq,true_and,and_true]at e;subst e;rw[X.apart i n o p q v D]
 ·rintro g g' l _ _⟨i,hi,rfl,y⟩⟨n,f,rfl,c,F,v,D,z⟩;rcases y with⟨b,x,p,q,r⟩|⟨o,rfl,p,q⟩;(·obtain rfl:=G5 r z;obtain rfl:=same hi f p q v;omega);·obtain rfl:J.R=F:=z;exact absurd rfl (h.pV n f _ _ v).2.1
 ·rintro g l _⟨i,hi,rfl,y⟩;rcases y with⟨b,x,p,q,r⟩|⟨o,rfl,p,q⟩;(·obtain⟨A,M,N,C⟩:=h.pV i hi _ _ p;refine⟨?_,C l r,PV r⟩;rintro⟨a,rfl,t⟩;exact A ((show a.block=x from r).symm.trans t));·refine⟨?_,λI=>?_,rfl⟩;(·rintro⟨a,e,t⟩;simp only[Loc.cell.injEq]at e;subst e;exact X.rw t);·exact X.Nq (.cell ⟨J.R,o,ax⟩) rfl I
 ·rintro g l _⟨i,hi,rfl,b,x,p,q,r⟩;obtain⟨A,M,N,C⟩:=h.pV i hi _ _ p;refine⟨?_,C l r,PV r⟩;rintro⟨a,rfl,t⟩;exact A ((show a.block=x from r).symm.trans t)
 ·rintro l I⟨a,rfl,t⟩;exact X.J6 a t I
 ·rintro g⟨y,_⟩;have:=X.pos;omega
theorem Tl.congr{Sh Old:Loc->Prop}{jS:Nat->Prop}{Own Rd f k:Nat->Loc->Prop}{t:bg}(h:Tl Sh Old jS Own Rd t)(o:∀g l,jS g->(f g l↔Own g l))(p:∀g l,jS g->(k g l↔Rd g l)):Tl Sh Old jS f k t:=⟨h.quiet,λg e l n=>h.own g e l ((o g l e).1 n),λg e l n=>h.rd g e l ((p g l e).1 n),λl a b c d=>h.free l a b c λg e=>⟨λx=>(d g e).1 ((o g l e).2 x),λx=>(d g e).2 ((p g l e).2 x)⟩,λl a b c d=>h.mine l a b c λg e x=>d g e ((o g l e).2 x),h.old,h.nr⟩
theorem Rl{op:cQ}{B:Nat}(h:op.act.low B){x:Touch}(a:op.act.touch?=ak x):x.loc.low B:=by obtain⟨g,fn,pos,b⟩:=op;simp only at h a;cases b with|access e=>simp only[az,aF]at a;subst a;exact h|mark m=>cases m<;>simp only[az,aF,reduceCtorEq]at a<;>(subst a;exact h)|_=>simp[az]at a
structure zb(J:na)(i:Nat)(e E':Gh)(w w':ah):Prop where
 bs:E'.bs=e.bs
 rel:jQ J.ok E'.ρ E'.wh w'
 le:e.ρ.le E'.ρ
 new:∀b b',E'.ρ b b'->e.ρ b b'\/w.heap.size<=b'
 shut:∀b b',E'.ρ b b'->b'<e.bs->lH E'.wh b
 size:w.heap.size<=w'.heap.size
 block:∀b',b'<w.heap.size->(∀c,e.ρ c b'->b'<e.bs)->b'≠J.Wg->b'≠J.R->w'.heap[b']?=w.heap[b']?
theorem Ac{ok:ja}{ρ:iR}{wh w w':ah}(h:jQ ok ρ wh w)(hs:w.heap.size<=w'.heap.size)(f:∀b a,ρ b a->w'.heap[a]?=w.heap[a]?)(c:w'.os=w.os/\w'.output=w.output):jQ ok ρ wh w':=⟨h.inj,⟨h.gs.1,aN h.gs.2 hs⟩,h.zero,λ{b a}x=>by obtain⟨o,e,e1,e2,e3⟩:=h.obj x;exact⟨o,e,e1,(f b a x).trans e2,e3⟩,⟨c.1.trans h.out.1,c.2.trans h.out.2⟩⟩
theorem KA{ok:ja}{ρ a:iR}{wh wh' w w':ah}(h:jQ ok ρ wh w)(b:jQ ok a wh' w'):w'.os=w.os/\w'.output=w.output:=⟨b.out.1.trans h.out.1.symm,b.out.2.trans h.out.2.symm⟩
theorem Mem.stepW(X:Stat J)(h:Mem ok J j E ρ0 wh0 w){i:Nat}(hi:i<j){E':Gh}{w':ah}(D:zb J i (E i) E' w w')(Y:w'.heap[J.C]?=w.heap[J.C]?)(T:tA J w->tA J w'):Mem ok J j (upd E i E') ρ0 wh0 w':=by
 have I:∀{n b k:Nat},n<j->n≠i->(E n).ρ b k->w'.heap[k]?=w.heap[k]?:=by intro n b k f t o;obtain⟨H,B,_,_⟩:=h.pV n f b k o;refine D.block k ((h.rel n f).lt o).2 (λc p=>?_) H B;exact bP λz=>(h.wZ i hi c k p z).1 n f t b o
 have F:∀{b k:Nat},ρ0 b k->w'.heap[k]?=w.heap[k]?:=by intro b k o;obtain⟨H,B,_,_⟩:=h.rM b k o;refine D.block k (h.mi.lt o).2 (λc p=>?_) H B;exact bP λz=>(h.wZ i hi c k p z).2 b o
 have v:∀{b k:Nat},w.heap.size<=k->(∀n,n<j->∀c,¬(E n).ρ c k)/\∀c,¬ρ0 c k:=by intro b k o;exact⟨λn f c p=>by have:=((h.rel n f).lt p).2;omega,λc p=>by have:=(h.mi.lt p).2;omega⟩
 have U:=(h.uz i hi).1;refine⟨Ac h.mi D.size (λb k o=>F o) (KA (h.rel i hi) D.rel),h.vR,λn f=>?_,λn f=>?_,λn f b k o q=>?_,λn f b k o q=>?_,λn f b c k o p=>?_,h.u7,λn f b k o=>?_,h.rM,λn f=>?_,?_,Y.trans h.var,T h.row,λk A=>?_,λk A=>?_,?_⟩;·by_cases e:n=i;(·subst e;rw[upd_same];exact D.rel);·rw[upd_ne E _ e];exact Ac (h.rel n f) D.size (λb k o=>I f e o) (KA (h.rel i hi) D.rel)
 ·by_cases e:n=i;(·subst e;rw[upd_same];exact(h.lU n f).mono D.le);·rw[upd_ne E _ e];exact h.lU n f
 ·by_cases e:n=i;(·subst e;rw[upd_same]at o q;rw[D.bs]at q;rcases D.new b k o with o|o;(·obtain⟨p1,G⟩:=h.wZ n f b k o q;exact⟨λi2 y t c p=>by rw[upd_ne E _ t]at p;exact p1 i2 y t c p,G⟩);·obtain⟨p1,G⟩:=v (b:=b) o;exact⟨λi2 y t c p=>by rw[upd_ne E _ t]at p;exact p1 i2 y c p,G⟩);·rw[upd_ne E _ e]at o q;obtain⟨p1,G⟩:=h.wZ n f b k o q;refine⟨λi2 y t c p=>?_,G⟩;by_cases e2:i2=i;(·subst e2;rw[upd_same]at p;rcases D.new c k p with p|p;(·exact p1 i2 y t c p);·exact(v (b:=b) p).1 n f b o);·rw[upd_ne E _ e2]at p;exact p1 i2 y t c p
 ·by_cases e:n=i;(·subst e;rw[upd_same]at o q⊢;rw[D.bs]at q;exact D.shut b k o q);·rw[upd_ne E _ e]at o q⊢;exact h.xI n f b k o q
 ·by_cases e:n=i;(·subst e;rw[upd_same]at p;rcases D.new c k p with p|p;(·exact h.tZ n f b c k o p);·exact absurd o ((v (b:=b) p).2 b));·rw[upd_ne E _ e]at p;exact h.tZ n f b c k o p
 ·by_cases e:n=i;(·subst e;rw[upd_same]at o⊢;rcases D.new b k o with o|o;(·obtain⟨H,B,V,Z⟩:=h.pV n f b k o;exact⟨H,B,λx=>by rw[D.bs];exact V x,Z⟩);·obtain⟨l1,Q,L,N,_⟩:=h.lt;refine⟨by omega,by omega,λx=>by omega,λl K S=>?_⟩;have:=X.low l S;cases l with|cell a=>simp only[bn]at this;have e:a.block=k:=K;omega|obj r=>simp only[bn]at this;have e:r=k:=K;omega|_=>exact K.elim);·rw[upd_ne E _ e]at o⊢;exact h.pV n f b k o
 ·by_cases e:n=i;(·subst e;rw[upd_same,D.bs];exact⟨aN (h.uz n f).1 D.size,(h.uz n f).2⟩);·rw[upd_ne E _ e];exact⟨aN (h.uz n f).1 D.size,(h.uz n f).2⟩
 ·obtain⟨l1,Q,L,N,M,O⟩:=h.lt;have:=D.size;exact⟨by omega,by omega,by omega,by omega,M,O⟩
 ·obtain⟨l1,Q,L,N,M,O⟩:=h.lt;refine(D.block k (by omega) (λc p=>?_) (by omega) (by omega)).trans (h.iZ k A);have:=(h.uz i hi).2;omega
 ·obtain⟨s1,s2,s3,W,R⟩:=h.still k A;have n1:=h.n1.1;have n2:=h.n1.2 i hi;exact⟨(D.block k (by omega) (λc p=>by omega) s2 s3).trans s1,s2,s3,W,R⟩
 ·refine⟨aN h.n1.1 D.size,λn f=>?_⟩;by_cases e:n=i;(·subst e;rw[upd_same,D.bs];exact h.n1.2 n f);·rw[upd_ne E _ e];exact h.n1.2 n f
structure sQ(ok:ja)(J:na)(ρ0 ρ0':iR)(wh0 wh0' w w':ah):Prop where
 rel:jQ ok ρ0' wh0' w'
 le:ρ0.le ρ0'
 new:∀b b',ρ0' b b'->ρ0 b b'\/w.heap.size<=b'
 shut:∀b,lH wh0 b->lH wh0' b
 size:w.heap.size<=w'.heap.size
 block:∀b',b'<w.heap.size->(∀c,ρ0 c b'->lH wh0 c)->b'≠J.Wg->w'.heap[b']?=w.heap[b']?
theorem Mem.step0(X:Stat J)(h:Mem ok J j E ρ0 wh0 w){ρ0':iR}{wh0' w':ah}(D:sQ ok J ρ0 ρ0' wh0 wh0' w w'):Mem ok J j E ρ0' wh0' w':=by
 obtain⟨l1,B,F,T,Q,M⟩:=h.lt;have q:∀{i b f:Nat},i<j->(E i).ρ b f->w'.heap[f]?=w.heap[f]?:=by intro i b f hi k;obtain⟨y,A,_,_⟩:=h.pV i hi b f k;exact D.block f ((h.rel i hi).lt k).2 (λc n=>h.tZ i hi c b f n k) y
 have S:w'.heap[J.R]?=w.heap[J.R]?:=D.block J.R F (λc n=>absurd rfl (h.rM c _ n).2.1) X.rw;have O:w'.heap[J.C]?=w.heap[J.C]?:=D.block J.C B (λc n=>(h.rM c _ n).2.2.1 rfl) X.cw;have L:=D.size;refine⟨D.rel,h.vR.mono D.le,λi hi=>Ac (h.rel i hi) D.size (λb f k=>q hi k) (KA h.mi D.rel),h.lU,λi hi b f k t=>?_,h.xI,λi hi b c f k n=>?_,λb f k p=>?_,h.pV,λb f k=>?_,λi hi=>⟨aN (h.uz i hi).1 D.size,(h.uz i hi).2⟩,⟨by omega,by omega,by omega,by omega,Q,M⟩,O.trans h.var,?_,λf o=>?_,λf o=>?_,⟨aN h.n1.1 D.size,h.n1.2⟩⟩;·obtain⟨p1,H⟩:=h.wZ i hi b f k t;refine⟨p1,λc n=>?_⟩;rcases D.new c f n with n|n;(·exact H c n);·have:=((h.rel i hi).lt k).2;omega
 ·rcases D.new b f k with k|k;(·exact D.shut b (h.tZ i hi b c f k n));·have:=((h.rel i hi).lt n).2;omega
 ·rcases D.new b f k with k|k;(·exact D.shut b (h.u7 b f k p));·omega
 ·rcases D.new b f k with k|k;(·obtain⟨y,A,G,I⟩:=h.rM b f k;exact⟨y,A,λx=>D.shut b (G x),I⟩);·refine⟨by omega,by omega,λx=>by omega,λl v K=>?_⟩;have:=X.low l K;cases l with|cell a=>simp only[bn]at this;have e:a.block=f:=v;omega|obj r=>simp only[bn]at this;have e:r=f:=v;omega|_=>exact v.elim
 ·obtain⟨cs,e1,e2⟩:=h.row;exact⟨cs,S.trans e1,e2⟩
 ·exact(D.block f (by omega) (λc n=>h.u7 c f n o) (by omega)).trans (h.iZ f o)
 ·obtain⟨s1,s2,s3,N,z⟩:=h.still f o;have n1:=h.n1.1;refine⟨(D.block f (by omega) z s2).trans s1,s2,s3,N,λb k=>?_⟩;rcases D.new b f k with k|k;(·exact D.shut b (z b k));·omega
end
end
section
open Go.Conc Go.ConcN
open Go.ConcR(KK wgBlock WgAt stA smA rd wr mk Payload DC0 Bk g_of_ofEvents)
variable[bq]
structure Cy(ok:ja)(P:an)(J:na)(j:Nat)(E:Nat->Gh)(D:Nat->WD)(U q:Nat->Nat)(ρ0:iR)(wh0:ah)(gs:Array aj)(w:ah)(t:bg)(d0:Nat):Prop where
 size:gs.size=J.n0+j
 AA:∀k g,0<k->k<J.n0->gs[k]?=some g->QuitsD P (q k) (cN t k) g
 above:∀k,J.n0+j<=k->cN t k=0
 wk:∀i,i<j->∃g,gs[J.n0+i]?=some g/\WS P J i (E i) (U i) (D i).stage (D i).fuel (D i).deaf g w
 mem:Mem ok J j E ρ0 wh0 w
 tl:Tl (ShN J.Wg) J.Old (jS J j) (zM J j E) (zx J j E) t
 kn:Kn J.Old (jS J j) t
 norel:NoRelease (stA J.Wg) t
 deaf0:cN t 0=d0
 deafW:∀i,i<j->cN t (J.n0+i)=(D i).deaf
 rel:∀i,i<j->(D i).stage<=6->∃r,uj (ShN J.Wg) (stA J.Wg) t (J.n0+i) r
 out:∀i,i<j->(D i).stage<=6->Out J i (E i) w
 low:∀op∈t,op.act.low w.heap.size
section
variable{ok:ja}{P:an}{J:na}{j:Nat}{E:Nat->Gh}{D:Nat->WD}{U q:Nat->Nat}{ρ0:iR}{wh0 w w':ah}{gs:Array aj}{t:bg}{d0:Nat}
theorem Mem.at(h:Mem ok J j E ρ0 wh0 w)(d:Nat):Mem ok J j E ρ0 wh0 (w.at d):=⟨⟨h.mi.inj,h.mi.gs,h.mi.zero,h.mi.obj,h.mi.out⟩,h.vR,λi hi=>let r:=h.rel i hi;⟨r.inj,r.gs,r.zero,r.obj,r.out⟩,h.lU,h.wZ,h.xI,h.tZ,h.u7,h.pV,h.rM,h.uz,h.lt,h.var,h.row,h.iZ,h.still,h.n1⟩
theorem Cy.at(h:Cy ok P J j E D U q ρ0 wh0 gs w t d0)(d:Nat):Cy ok P J j E D U q ρ0 wh0 gs (w.at d) t d0:={h with wk:=λi hi=>let⟨g,a,hs⟩:=h.wk i hi;⟨g,a,hs.rely (RT.at w d)⟩,mem:=h.mem.at d,out:=h.out,low:=h.low}
theorem Wb(X:Stat J){g:Nat}(h:jS J j g):g≠0:=by have:=X.pos;have:=h.1;omega
theorem uj.appOther{Sh:Loc->Prop}{a:bX}{t u:bg}{k r g:Nat}(h:uj Sh a t k r)(l:∀op∈u,op.g=g)(m:g≠k):uj Sh a (t++u) k r:=h.app (λop c e=>absurd ((l op c).symm.trans e) m) (λi hi d=>by obtain⟨op,o,b⟩:=ao.1 d;rcases getElem?_append_cases o with⟨n,_⟩|⟨_,f⟩;(·omega);·rw[l op f]at b;exact absurd b m)
theorem Ku(h:∀op∈t,op.act.low w.heap.size)(hs:w.heap.size<=w'.heap.size){g:Nat}{fn:bN}{pos:String}{es:Array aU}(c:∀e∈es,(aq e).low w'.heap.size):∀op∈t++ar g fn pos es,op.act.low w'.heap.size:=by
 intro op a;rcases bQ.1 a with a|a;·exact MemAct.low_mono hs (h op a)
 ·obtain⟨e,b,rfl⟩:=au a;exact c e b
theorem Cy.stepW(X:Stat J)(h:Cy ok P J j E D U q ρ0 wh0 gs w t d0){i:Nat}(hi:i<j){g g':aj}{es:Array aU}{E':Gh}{u' s' m' dd':Nat}{fn:bN}{pos:String}(s:zb J i (E i) E' w w')(Z:w'.heap[J.C]?=w.heap[J.C]?)(G:tA J w->tA J w')(H:∀d,d<j->d≠i->RT J d w w')(R:WS P J i E' u' s' m' dd' g' w')(Q:∀op∈ar (J.n0+i) fn pos es,GA (ShN J.Wg) (zM J j (upd E i E')) (zx J j (upd E i E')) (J.n0+i) op)(N:∀e∈es,e.loc≠.mark (.release (stA J.Wg)))(z:deafBehind (D i).deaf es=dd')(hrel:s'<=6->∃r,uj (ShN J.Wg) (stA J.Wg) (t++ar (J.n0+i) fn pos es) (J.n0+i) r)(F:s'<=6->Out J i E' w')(I:∀e∈es,(aq e).low w'.heap.size):Cy ok P J j (upd E i E') (upd D i ⟨s',m',dd'⟩) (upd U i u') q ρ0 wh0 ((gs.map (woken P g g' w')).setIfInBounds (J.n0+i) g') w' (t++ar (J.n0+i) fn pos es) d0:=by
 have T:=X.pos;have v:jS J j (J.n0+i):=⟨by omega,by omega⟩;have u:=h.mem.stepW X hi s Z G;have W:=(h.mem.uz i hi).1;refine⟨by simp[h.size],λk x hk O n=>?_,λk hk=>?_,λd c=>?_,u,?_,?_,h.norel.app (norel_of N),?_,λd c=>?_,λd c m=>?_,λd c m=>?_,Ku h.low s.size I⟩;·rw[get_map_set _ _ _ _ (by omega)]at n;obtain⟨y,hy,rfl⟩:=ao.1 n;have S:=h.AA k y hk O hy;rw[woken_quitsD S,aD t (by omega) _ g_of_ofEvents];exact S
 ·rw[aD t (by omega) _ g_of_ofEvents];exact h.above k hk
 ·by_cases e:d=i;(·subst e;exact⟨g',get_map_set_same _ _ _ (by rw[h.size];omega),by rw[upd_same,upd_same,upd_same];exact R⟩);·obtain⟨x,n,K⟩:=h.wk d c;refine⟨x,by rw[get_map_set _ _ _ _ (by omega),n,bA,K.woken],?_⟩;rw[upd_ne D _ e,upd_ne E _ e,upd_ne U _ e];exact K.rely (H d c e)
 ·refine Tl.appW (u.Lb X) ?_ v Q;have V:=Tl.grow h.tl (g0:=J.n0+i) (New:=λl=>∃b f,E'.ρ b f/\w.heap.size<=f/\sH l f) (λk a ha⟨b,f,_,hb,B⟩=>by obtain⟨op,A,M⟩:=touch_of ha;have:=Rl (h.low op (aY A)) M;cases hloc:a.loc with|cell ad=>rw[hloc]at this B;simp only[bn]at this;have e:ad.block=f:=B;omega|obj r=>rw[hloc]at this B;simp only[bn]at this;have e:r=f:=B;omega|_=>rw[hloc]at B;exact B.elim);refine V.congr (λg l L=>⟨?_,?_⟩) (λg l L=>⟨?_,?_⟩);(·rintro⟨d,c,rfl,n⟩;by_cases e:d=i;(·subst e;simp only[upd_same]at n;rcases n with⟨b,f,p,o,r⟩|n;(·rcases s.new b f p with p|p;(·rw[s.bs]at o;exact .inl ⟨d,c,rfl,.inl ⟨b,f,p,o,r⟩⟩);·exact .inr ⟨rfl,b,f,‹_›,p,r⟩);·exact .inl ⟨d,c,rfl,.inr n⟩);·simp only[upd_ne E _ e]at n;exact .inl ⟨d,c,rfl,n⟩);(·rintro(⟨d,c,rfl,n⟩|⟨rfl,b,f,p,o,r⟩);(·by_cases e:d=i;(·subst e;refine⟨d,c,rfl,?_⟩;simp only[upd_same];rcases n with⟨b,f,p,o,r⟩|n;(·exact .inl ⟨b,f,s.le _ _ p,by rw[s.bs];exact o,r⟩);·exact .inr n);·exact⟨d,c,rfl,by simp only[upd_ne E _ e];exact n⟩);·refine⟨i,hi,rfl,.inl ⟨b,f,?_,?_,r⟩⟩;(·simp only[upd_same];exact p);·simp only[upd_same];rw[s.bs];omega);(·rintro⟨d,c,rfl,b,f,p,o,r⟩;by_cases e:d=i;(·subst e;simp only[upd_same]at p o;rw[s.bs]at o;rcases s.new b f p with p|p;(·exact⟨d,c,rfl,b,f,p,o,r⟩);·omega);·simp only[upd_ne E _ e]at p o;exact⟨d,c,rfl,b,f,p,o,r⟩);·rintro⟨d,c,rfl,b,f,p,o,r⟩;by_cases e:d=i;(·subst e;exact⟨d,c,rfl,b,f,by simp only[upd_same];exact s.le _ _ p,by simp only[upd_same];rw[s.bs];exact o,r⟩);·exact⟨d,c,rfl,b,f,by simp only[upd_ne E _ e];exact p,by simp only[upd_ne E _ e];exact o,r⟩
 ·exact h.kn.app λop A=>.inr (.inl (by rw[g_of_ofEvents op A];exact v))
 ·rw[aD t (by omega) _ g_of_ofEvents];exact h.deaf0
 ·by_cases e:d=i;(·subst e;rw[cz,h.deafW d c,upd_same];exact z);·rw[aD t (by omega) _ g_of_ofEvents,h.deafW d c,upd_ne D _ e]
 ·by_cases e:d=i;(·subst e;rw[upd_same]at m;exact hrel m);·rw[upd_ne D _ e]at m;obtain⟨r,Y⟩:=h.rel d c m;exact⟨r,Y.appOther g_of_ofEvents (by omega)⟩
 ·by_cases e:d=i;(·subst e;rw[upd_same]at m⊢;exact F m);·rw[upd_ne D _ e]at m;rw[upd_ne E _ e];exact(H d c e).out (h.out d c m)
theorem Cy.step0(X:Stat J)(h:Cy ok P J j E D U q ρ0 wh0 gs w t d0){g g':aj}{es:Array aU}{fn:bN}{pos:String}{ρ0':iR}{wh0':ah}(s:sQ ok J ρ0 ρ0' wh0 wh0' w w')(f:bG J.ty J.Wg w')(F:∀op∈ar 0 fn pos es,Aw (ShN J.Wg) J.Old (jS J j) (zM J j E) (zx J j E) op)(z:∀e∈es,e.loc≠.mark (.release (stA J.Wg)))(n:∀e∈es,(aq e).low w'.heap.size):Cy ok P J j E D U q ρ0' wh0' ((gs.map (woken P g g' w')).setIfInBounds 0 g') w' (t++ar 0 fn pos es) (deafBehind d0 es):=by
 have I:=X.pos;obtain⟨l1,M,L,T,Q,S⟩:=h.mem.lt;have G:w'.heap[J.R]?=w.heap[J.R]?:=s.block J.R L (λc v=>absurd rfl (h.mem.rM c _ v).2.1) X.rw;have O:w'.heap[J.C]?=w.heap[J.C]?:=s.block J.C M (λc v=>(h.mem.rM c _ v).2.2.1 rfl) X.cw;have l:∀i,RT J i w w':=λi=>⟨λ_=>f,O,λ⟨cs,a,b⟩=>⟨cs,G.trans a,b⟩,λo _ _=>cell_of_block G o⟩;have p:=h.mem.step0 X s;refine⟨by simp[h.size],λk x hk B u=>?_,λk hk=>?_,λi hi=>?_,p,h.tl.app0 (h.mem.Lb X) F,h.kn.app λop A=>.inl (g_of_ofEvents op A),h.norel.app (norel_of z),by rw[cz,h.deaf0],λi hi=>?_,λi hi d=>?_,λi hi d=>(l i).out (h.out i hi d),Ku h.low s.size n⟩;·rw[get_map_set _ _ _ _ (by omega)]at u;obtain⟨y,K,rfl⟩:=ao.1 u;have H:=h.AA k y hk B K;rw[woken_quitsD H,aD t (by omega) _ g_of_ofEvents];exact H
 ·rw[aD t (by omega) _ g_of_ofEvents];exact h.above k hk
 ·obtain⟨x,u,m⟩:=h.wk i hi;exact⟨x,by rw[get_map_set _ _ _ _ (by omega),u,bA,m.woken],m.rely (l i)⟩
 ·rw[aD t (by omega) _ g_of_ofEvents,h.deafW i hi]
 ·obtain⟨r,N⟩:=h.rel i hi d;exact⟨r,N.appOther g_of_ofEvents (by omega)⟩
theorem Cy.slip(X:Stat J)(h:Cy ok P J j E D U q ρ0 wh0 gs w t d0){k:Nat}(hk:0<k)(F:k<J.n0){g g':aj}{es:Array aU}{fn:bN}{pos:String}{n:Nat}(u:∀e∈es,e.mute=aX)(z:QuitsD P n (deafBehind (cN t k) es) g'):Cy ok P J j E D U (upd q k n) ρ0 wh0 ((gs.map (woken P g g' w)).setIfInBounds k g') w (t++ar k fn pos es) d0:=by
 have o:∀op∈ar k fn pos es,op.act.touch?=ax:=λop b=>by obtain⟨e,l,rfl⟩:=au b;exact touch_mute (u e l)
 refine⟨by simp[h.size],λk2 x a m c=>?_,λk2 a=>?_,λi hi=>?_,h.mem,h.tl.appMute (g:=k) g_of_ofEvents o,h.kn.app λop b=>.inr (.inr (o op b)),h.norel.app ?_,?_,λi hi=>?_,λi hi p=>?_,h.out,Ku h.low (bF _) λe l=>low_mute (u e l) _⟩;·by_cases e:k=k2;(·subst e;(have s:k<gs.size:=by rw[h.size];omega);rw[aQ (by simpa using s)]at c;obtain rfl:=aJ c;rw[upd_same,cz];exact z);·rw[get_map_set _ _ _ _ e]at c;obtain⟨y,C,rfl⟩:=ao.1 c;have f:=h.AA k2 y a m C;rw[woken_quitsD f,upd_ne q n (Ne.symm e),aD t e _ g_of_ofEvents];exact f
 ·rw[aD t (by omega) _ g_of_ofEvents];exact h.above k2 a
 ·obtain⟨x,c,d⟩:=h.wk i hi;exact⟨x,by rw[get_map_set _ _ _ _ (by omega),c,bA,d.woken],d⟩
 ·refine norel_of λe l v=>?_;have:=u e l;obtain⟨B,wr,G⟩:=e;simp only at v;subst v;simp[Event.mute]at this
 ·rw[aD t (by omega) _ g_of_ofEvents];exact h.deaf0
 ·rw[aD t (by omega) _ g_of_ofEvents];exact h.deafW i hi
 ·obtain⟨r,A⟩:=h.rel i hi p;exact⟨r,A.appOther g_of_ofEvents (by omega)⟩
end
end
section
open Go.Conc Go.ConcN
open Go.ConcR(KK wgBlock WgAt stA smA rd wr mk Payload DC0 Bk g_of_ofEvents bk_of_mute ofEvent_loc_mark ofEvent_cell deafBehind_cons deafBehind_one)
variable[bq]
def Ay{a:Type}(r:Nat->a->a->Prop)(j:Nat)(y x:Nat->a):Prop:=∃i,i<j/\r i (y i) (x i)/\∀k,k<j->k≠i->y k=x k
omit[Payload]in theorem acL{h:Type}(r:Nat->h->h->Prop):∀(j:Nat)(x:Nat->h),(∀i,i<j->Acc (r i) (x i))->Acc (Ay r j) x:=by intro j;induction j with|zero=>intro x _;exact⟨_,λy⟨i,hi,_⟩=>absurd hi (by omega)⟩|succ j q=>intro x g;(have key:∀a,Acc (r j) a->∀x,Acc (Ay r j) x->x j=a->(∀i,i<j->Acc (r i) (x i))->Acc (Ay r (j+1)) x:=by intro a u;induction u with|intro a _ l=>intro x g;induction g with|intro x _ o=>intro e d;refine⟨_,λy⟨i,hi,n,hk⟩=>?_⟩;rcases cG i j with m|v;(·exact o y ⟨i,m,n,λk t p=>hk k (by omega) p⟩ ((hk j (by omega) (by omega)).trans e) (λb f=>by by_cases s:b=i;(·subst s;exact(d b f).inv n);·rw[hk b (by omega) s];exact d b f));·(obtain rfl:i=j:=by omega);(have c:∀b,b<i->Acc (r b) (y b):=λb f=>by rw[hk b (by omega) (by omega)];exact d b f);exact l (y i) (e▸n) y (q y c) rfl c);exact key (x j) (g j (by omega)) x (q x λi hi=>g i (by omega)) rfl λi hi=>g i (by omega)
def Gv(P:an)(S:List ai->ah->Prop)(y x:List ai×ah):Prop:=¬S x.1 x.2/\∃a d es,(own P x.1).runT P (x.2.re a d) #[]=(.ok y.1 y.2,es)
omit[Payload]in theorem aeC{ok:ja}{P:an}{S:List ai->ah->Prop}{l:List ai}{wh:ah}(h:Safe ok P S l wh):Acc (Gv P S) (l,wh):=by induction h with|stop h=>exact⟨_,λy⟨a,_⟩=>absurd h a⟩|step hd h hs e=>exact⟨_,λy⟨a,c,d,es,b⟩=>e c d _ _ _ b⟩
def Cv(P:an)(S:List ai->ah->Prop):Option (List ai×ah)->Option (List ai×ah)->Prop|ak y,ak x=>Gv P S y x|_,_=>False
omit[Payload]in theorem On{P:an}{S:List ai->ah->Prop}:Acc (Cv P S) ax:=⟨_,λy h=>by cases y<;>exact h.elim⟩
omit[Payload]in theorem SD{P:an}{S:List ai->ah->Prop}{x:List ai×ah}(h:Acc (Gv P S) x):Acc (Cv P S) (ak x):=by induction h with|intro x _ a=>refine⟨_,λy h=>?_⟩;cases y with|none=>exact On|some y=>exact a y h
structure Sn where
 gs:Array aj
 w:ah
 t:bg
 E:Nat->Gh
 D:Nat->WD
 U:Nat->Nat
 q:Nat->Nat
 st:Int
 sm:Int
structure j5(ok:ja)(P:an)(J:na)(j:Nat)(ρ0:iR)(wh0:ah)(d0:Nat)(tag:cT)(s:Sn):Prop where
 cy:Cy ok P J j s.E s.D s.U s.q ρ0 wh0 s.gs s.w s.t d0
 wg:WgAt J.ty J.Wg s.w s.st s.sm
 mode:cU j s.D tag s.st s.sm
def kk(j:Nat)(s:Sn):Nat:=sumTo j λi=>3*(s.D i).stage+s.U i
def vv(s:Sn)(i:Nat):Option (List ai×ah):=if s.U i=0 then ax else ak ((s.E i).l,(s.E i).wh)
def ff(J:na)(j:Nat)(s:Sn):Nat:=sumTo j (λi=>(s.D i).fuel)+sumTo J.n0 s.q
def vJ(P:an)(J:na)(j:Nat)(s' s:Sn):Prop:=kk j s'<kk j s\/(kk j s'=kk j s/\(Ay (λi=>Cv P (J.S i)) j (vv s') (vv s)\/((∀i,i<j->vv s' i=vv s i)/\ff J j s'<ff J j s)))
theorem j5.acc{ok:ja}{P:an}{J:na}{j:Nat}{ρ0:iR}{wh0:ah}{d0:Nat}{tag:cT}{s:Sn}(h:j5 ok P J j ρ0 wh0 d0 tag s):Acc (Ay (λi=>Cv P (J.S i)) j) (vv s):=by
 refine acL _ j _ λi hi=>?_;unfold vv;split;·exact On
 ·rename_i d;obtain⟨g,_,hs⟩:=h.cy.wk i hi;refine SD (aeC (ok:=J.ok) ?_);generalize(s.D i).stage=a at hs;generalize(s.D i).fuel=b at hs;generalize(s.D i).deaf=c at hs;generalize s.U i=u at hs d;cases hs with|pre hs _=>exact hs|gh hs _ _=>exact hs|tail _=>exact absurd rfl d|yf _ _=>exact absurd rfl d
theorem MT{P:an}{J:na}{j:Nat}(I:Sn->Prop)(acc:∀s,I s->Acc (Ay (λi=>Cv P (J.S i)) j) (vv s))(a:Sn->Prop)(step:∀s,I s->(∀s',I s'->vJ P J j s' s->a s')->a s):∀s,I s->a s:=by
 have key:∀(n:Nat)(x:Nat->Option (List ai×ah)),Acc (Ay (λi=>Cv P (J.S i)) j) x->(∀s,kk j s<n->I s->a s)->∀(m:Nat)s,kk j s=n->(∀i,i<j->vv s i=x i)->ff J j s=m->I s->a s:=by intro n x q w;induction q with|intro x _ l=>intro m;induction m using bz with|_ m f=>intro s hk g z d;refine step s d λs' c b=>?_;rcases b with h|⟨A,v|⟨u,y⟩⟩;(·exact w s' (by omega) c);(·obtain⟨i,hi,p,o⟩:=v;exact l (vv s') ⟨i,hi,by rw[<-g i hi];exact p,λk e b=>(o k e b).trans (g k e)⟩ (ff J j s') s' (by omega) (λ_ _=>rfl) rfl c);·exact f (ff J j s') (by omega) s' (by omega) (λi hi=>(u i hi).trans (g i hi)) rfl c
 intro s d;have all:∀n s,kk j s=n->I s->a s:=by intro n;induction n using bz with|_ n r=>intro s hk d;exact key n (vv s) (acc s d) (λs' t=>r _ t s' rfl) (ff J j s) s hk (λ_ _=>rfl) rfl d
 exact all _ s rfl d
def IQ(P:an)(J:na):Prop:=∀(i:Nat)(E:Gh)(f:ai)(Y:List ai)(w:ah),J.S i E.l E.wh->nF J.ok P E.ρ E.l (f::Y)->tB J.defers J.kind (f::Y)->jQ J.ok E.ρ E.wh w->tA J w->I4 J w->bG J.ty J.Wg w->∃m,cR P aV (RT J i) (DT J i) (λg w=>AtR0 P J.ty J.Wg J.C 1 0 1 J.val g w/\Out J i E w) m (G f (Y++J.base)) w
def sY(a:aj)(tag:cT):Prop:=(a.status=.running/\tag≠.blk)\/∃b:aj,a={b with status:=.blocked}/\b.status=.running/\b.offers=ax/\tag=.blk
def wv(a:aj)(tag:cT)(a':aj)(tag':cT):Prop:=(a'=a/\tag'=tag)\/(tag=.blk/\tag'=.w3/\a={a' with status:=.blocked}/\a'.status=.running/\a'.offers=ax)
section
variable{ok:ja}{P:an}{J:na}{j:Nat}{E:Nat->Gh}{D:Nat->WD}{U q:Nat->Nat}{ρ0:iR}{wh0 w w':ah}{gs:Array aj}{t:bg}{d0:Nat}{tag:cT}{a:aj}{st sm:Int}
omit[Payload]in theorem Ov(h:sY a tag)(g g':aj)(w':ah):∃tag',wv a tag (woken P g g' w' a) tag'/\sY (woken P g g' w' a) tag'/\(mayWake P g=aX->g'.status=.running->tag'≠.blk):=by
 rcases h with⟨b,c⟩|⟨e,rfl,b,c,rfl⟩;·rw[woken_run b];exact⟨tag,.inl ⟨rfl,rfl⟩,.inl ⟨b,c⟩,λ_ _=>c⟩
 ·unfold woken;split;(·rw[cH b c];exact⟨.w3,.inr ⟨rfl,rfl,rfl,b,c⟩,.inl ⟨b,by simp⟩,λ_ _=>by simp⟩);·rename_i d;refine⟨.blk,.inl ⟨rfl,rfl⟩,.inr ⟨e,rfl,b,c,rfl⟩,λx y=>?_⟩;rw[x,y]at d;exact absurd rfl d
omit[Payload]in theorem wv.retag{a':aj}{tag':cT}(h:wv a tag a' tag'):tag'=tag\/(tag=.blk/\tag'=.w3):=h.imp (·.2) λx=>⟨x.1,x.2.1⟩
omit[Payload]in theorem ajo{Wg:Nat}{ad:bX}{t:bg}{k r d:Nat}(h:uj (ShN Wg) ad t k r)(o:cN t k=d)(fn:bN)(pos:String){es:Array aU}(l:∀e∈es,Bk Wg e)(hd:∀j e,es[j]?=ak e->(aq e).touch?=ax\/0<deafBehind d (es.extract 0 j)):uj (ShN Wg) ad (t++ar k fn pos es) k r:=by
 refine⟨h.toRelBy.book o fn pos l hd,λi x hi z y=>?_⟩;obtain⟨op,m,c⟩:=touch_of y;rcases getElem?_append_cases m with⟨p,g⟩|⟨_,f⟩;·exact h.qk i x hi (by rw[<-g?_old (u:=ar k fn pos es) p];exact z) (by rw[touchAt_of g];exact c)
 ·obtain⟨e,v,rfl⟩:=au f;rcases l e v with n|n|⟨b,wr,rfl,s⟩;(·simp only[ofEvent_loc_mark n]at c;cases c);(·simp only[ofEvent_loc_mark n]at c;cases c);·simp only[ofEvent_cell,az,aF]at c;subst c;exact⟨b,rfl,s⟩
omit[Payload]in theorem zE{Wg B:Nat}(g:Wg<B){es:Array aU}(h:∀e∈es,Bk Wg e):∀e∈es,(aq e).low B:=by
 intro e d;rcases h e d with c|c|⟨b,wr,rfl,f⟩;·rw[ofEvent_loc_mark c];trivial
 ·rw[ofEvent_loc_mark c];trivial
 ·rw[ofEvent_cell];simp only[MemAct.low,bn];omega
omit[Payload]in theorem UE{Wg:Nat}{Own Rd:Nat->Loc->Prop}{k:Nat}{fn:bN}{pos:String}{es:Array aU}(h:∀e∈es,Bk Wg e):∀op∈ar k fn pos es,GA (ShN Wg) Own Rd k op:=by
 intro op d;obtain⟨e,g,rfl⟩:=au d;refine⟨rfl,λx c=>?_⟩;rcases h e g with f|f|⟨b,wr,rfl,i⟩;·simp only[ofEvent_loc_mark f]at c;cases c
 ·simp only[ofEvent_loc_mark f]at c;cases c
 ·simp only[ofEvent_cell,az,aF]at c;subst c;exact .inl ⟨⟨b,rfl,i⟩,by simp,by simp⟩
theorem zb.aside{i:Nat}(d:Mem ok J j E ρ0 wh0 w)(hi:i<j)(e:∀b,b≠J.Wg->w'.heap[b]?=w.heap[b]?)(hs:w'.heap.size=w.heap.size)(g:w'.os=w.os/\w'.output=w.output:=by exact⟨rfl,rfl⟩):zb J i (E i) (E i) w w':=⟨rfl,Ac (d.rel i hi) (by omega) (λb c k=>e c (d.pV i hi b c k).1) g,iR.le.refl _,λb c h=>.inl h,d.xI i hi,by omega,λc _ _ f _=>e c f⟩
theorem RT.aside(X:Stat J){i:Nat}(c:∀b,b≠J.Wg->w'.heap[b]?=w.heap[b]?)(d:bG J.ty J.Wg w'):RT J i w w':=⟨λ_=>d,c J.C X.cw,λ⟨cs,a,b⟩=>⟨cs,(c J.R X.rw).trans a,b⟩,λo _ _=>cell_of_block (c J.R X.rw) o⟩
end
end
end Go.Rel
namespace Go.Proofs.YtldeiiffabfmeaaGreatDoor
section
open Go.Conc Go.ConcN Go.RowKit Go.Conc.Lib Go.ConcR.Gen Go.ConcN.Gen Go.Rel
open Go.ConcR(KK wgBlock WgAt stA smA rd wr mk Payload DC0 ofEvent_cell)
def uP:ai:=baseD 131
noncomputable def bot:ai:={(default:ai)with fn:=Tryz.prog.funcs.size,defers:=[],mode:=.panicking [goexitEntry]}
noncomputable def GJ:Code:=Tryz.f131.body.getD .skip
noncomputable def C5:Code:=match GJ with|.seq _ b=>b|_=>.skip
noncomputable def oP:Array Oper:=match C5 with|.region _ o _=>o|_=>#[]
theorem aec:C5=.region 1 oP aX:=rfl
def call131(d c a b e:aK):bw:={target:=.fn (.func 131) #[d,c,a,b,e],args:=#[]}
def vq(d c a b e:aK):Array aK:=#[d,c,a,b,e,aP,aP,aP,aP,aP,aP,aP,aP,aP,aP,aP,aP,aP,aP,aP,aP,aP,aP,aP,aP,aP,aP,aP,aP,aP,aP]
def Ax(Wg:Nat):bw:=dcall 132 #[.pointer (ak ⟨Wg,0,ax⟩)]
theorem aaB(c a e b d:aK)(w:ah):stepG ay aV (born ay (call131 c a e b d)) w=.go (G (uP.at ⟨vq c a e b d,[]⟩ [.code GJ]) [bot]) w #[]:=by simp[born,call131,stepG,unwind,callDeferred,invoke,callFunc,cJ,cF,seen,GStep.after,G,Frame.enter,Frame.at,uP,baseD,bot,GJ,vq]
theorem HW{R:ah->ah->Prop}{w a:ah}(h:True)(_:R w a):True:=h
theorem aiM{R:ah->ah->Prop}(Wg:Nat)(h e c d:aK)(w:ah):cR ay aV R DC0 (λg _=>g=G (uP.at ⟨vq (.pointer (ak ⟨Wg,0,ax⟩)) h e c d,[Ax Wg]⟩ [.code C5]) [bot]) 8 (born ay (call131 (.pointer (ak ⟨Wg,0,ax⟩)) h e c d)) w:=by have hF:True:=trivial;refine Goes.step rfl λi a=>?_;rw[aaB];refine⟨by u_nil,?_⟩;clear a;simp only[GJ,cF,Option.getD_some,vq];u_c stepG_seq HW hF;u_reg HW hF;u_defer HW hF;u_c stepG_region_end HW hF;exact Goes.stop λf b=>rfl
theorem abK(T:Array aK)(td:List Item):QuitsD ay 2 0 (G {uP.at ⟨T,[]⟩ td with mode:=.returning} [bot]):=by
 refine QuitsD.ctl (g':=G bot []) rfl (λw=>?_) ?_;·simp[G,stepG,unwind,doReturn,results,Frame.at,uP,baseD,bot,cJ,cF,seen,GStep.after,goexitEntry]
 refine QuitsD.ctl (g':={G bot []with status:=.finished}) rfl (λw=>?_) ⟨rfl,rfl⟩;simp[G,stepG,unwind,bot,goexitEntry,Frame.catches];rfl
end
end Go.Proofs.YtldeiiffabfmeaaGreatDoor
namespace Go.Rel
section
open Go.Conc Go.ConcN
theorem O9{P:an}(g o:Nat)(t:bO):∀(vs:List aK)(i:Nat)(a:Array aK)(w:ah)(es:Array aU),w.heap[g]?=ak (.cells a t)->o+i+vs.length<=a.size->(∀v∈vs,v.oneCell'=aX)->∃w' c es',(storeCells ⟨g,o,ax⟩ vs i).runT P w es=(.ok () w',es++es')/\(w'.heap.size=w.heap.size/\w'.os=w.os/\w'.output=w.output)/\(∀b,b≠g->w'.heap[b]?=w.heap[b]?)/\w'.heap[g]?=ak (.cells c t)/\c.size=a.size/\(∀k,k<vs.length->c[o+i+k]?=vs[k]?)/\(∀k,(k<o+i\/o+i+vs.length<=k)->c[k]?=a[k]?)/\∀e∈es',∃k,i<=k/\k<i+vs.length/\e=⟨.cell ⟨g,o+k,ax⟩,aX,aV⟩|[],i,a,w,es,h,q,s=>⟨w,a,#[],by simp[storeCells],⟨rfl,rfl,rfl⟩,λ_ _=>rfl,h,rfl,λk hk=>absurd hk (by simp),λ_ _=>rfl,by simp⟩|v::rest,i,a,w,es,h,q,s=>by(have hi:o+i<a.size:=by simp at q;omega);(have m:(⟨g,o,ax⟩:bX).add i=⟨g,o+i,ax⟩:=by unfold Addr.add;split<;>simp_all);(have f:w.cell? ⟨g,o+i,ax⟩=ak a[o+i]:=by simp[World.cell?,h,hi]);(have l:w.frozen? ⟨g,o+i,ax⟩=aV:=by simp[World.frozen?,h]);have u:=s v (by simp);have d:(w.setCell ⟨g,o+i,ax⟩ v)=w.setRow g (a.setIfInBounds (o+i) v):=setCell_eq_setRow w g (o+i) a t (0,0) v h;(have p:(store ((⟨g,o,ax⟩:bX).add i) v).runT P w es=(.ok () (w.setRow g (a.setIfInBounds (o+i) v)),es.push ⟨.cell ⟨g,o+i,ax⟩,aX,aV⟩):=by rw[m,<-d];unfold store;cases v with|agg _=>simp[Value.oneCell']at u|tuple _=>simp[Value.oneCell']at u|_=>simp only[bD,f,l];rfl);have n:(w.setRow g (a.setIfInBounds (o+i) v)).heap[g]?=ak (.cells (a.setIfInBounds (o+i) v) t):=setRow_heap w g a _ t _ h;have r:=aside_setCell w ⟨g,o+i,ax⟩ v;rw[d]at r;obtain⟨w',c,es',k1,k2,k3,k4,k5,k6,z,B⟩:=O9 g o t rest (i+1) (a.setIfInBounds (o+i) v) (w.setRow g (a.setIfInBounds (o+i) v)) (es.push ⟨.cell ⟨g,o+i,ax⟩,aX,aV⟩) n (by simp at q⊢;omega) (λx C=>s x (by simp[C]));refine⟨w',c,#[⟨.cell ⟨g,o+i,ax⟩,aX,aV⟩]++es',?_,⟨k2.1.trans r.size,k2.2.1,k2.2.2⟩,λb y=>(k3 b y).trans (r.block b y),k4,by simpa using k5,λk hk=>?_,λk hk=>?_,λe j=>?_⟩;(·show(store ((⟨g,o,ax⟩:bX).add i) v>>=λ_=>storeCells ⟨g,o,ax⟩ rest (i+1)).runT P w es=_;rw[ot,p];simp only;rw[k1];simp);(·cases k with|zero=>rw[z (o+i+0) (.inl (by omega))];simp[hi]|succ k=>have:=k6 k (by simp at hk;omega);rw[show o+i+(k+1)=o+(i+1)+k by omega];simpa using this);(·rw[z k (by simp at hk⊢;omega)];rw[aE (by simp at hk;omega)]);·rcases bQ.1 j with j|j;(·simp at j;exact⟨i,bF _,by simp,j⟩);·obtain⟨k,q1,q2,A⟩:=B e j;exact⟨k,by omega,by simp;omega,A⟩
end
end Go.Rel
namespace Go.Proofs.YtldeiiffabfmeaaGreatDoor
section
open Go.Conc Go.ConcN Go.RowKit Go.Conc.Lib Go.ConcR.Gen Go.ConcN.Gen Go.Rel
open Go.ConcR(KK wgBlock WgAt stA smA rd wr mk Payload DC0 ofEvent_cell)
def Am:ai:=base 131
def MK(okW:ja)(n:Nat)(RS:Nat->Array aK->ah->Prop)(i:Nat)(l:List ai)(wh:ah):Prop:=∃(T:Array aK)(x:Array aK),l=[Am.at ⟨T,[]⟩ [.inRegion oP [25,26]]]/\T.size=31/\T[5]?=ak (.iface okW.ku (.int .i64 (1:Nat)))/\T[6]?=ak (.int .i64 i)/\T[29]?=ak (.agg x)/\x.size=6/\(∀v∈x,v.oneCell'=aX)/\i<n/\RS i x wh
def YO(okW:ja)(n:Nat)(RS:Nat->Array aK->ah->Prop)(i:Nat)(E:Gh)(row:Nat->Option aK):Prop:=∃(x x':Array aK),x.size=6/\RS i x E.wh/\jg okW E.ρ x x'/\i<n/\∀k,k<6->row (6*i+k)=x'[k]?
noncomputable def vF(Wg C R n n0 N0 N1:Nat)(w1:ah)(Still:Nat->Prop)(Old:Loc->Prop)(okW:ja)(RS:Nat->Array aK->ah->Prop):na where
 ty:=224;Wg:=Wg;C:=C;R:=R;Mg:=202;PL:=6*n;val:=.slice (ak ⟨R,0,ax⟩) n n;n0:=n0;N0:=N0;N1:=N1;w1:=w1;Still:=Still;Old:=Old;ok:=okW;base:=[bot];defers:=[Ax Wg];kind:=.deferred;S:=MK okW n RS;lo:=λi=>6*i;hi:=λi=>6*i+6;we:=YO okW n RS
noncomputable def CC:Oper:=oP[25]?.getD default
noncomputable def Ao:Oper:=oP[26]?.getD default
theorem F8:oP[25]?=ak CC/\CC.op=.indexAddr 198 (.tmp 5) (.tmp 6)/\CC.dst=ak 30/\CC.guard=ax:=⟨rfl,rfl,rfl,rfl⟩
theorem GO:oP[26]?=ak Ao/\Ao.op=.store 202 (.tmp 30) (.tmp 29)/\Ao.dst=ax/\Ao.guard=ax:=⟨rfl,rfl,rfl,rfl⟩
theorem acn:(Tryz.prog.funcs[131]?).any (·.norace)=aV:=by kernel_rfl
section
variable{T:Array aK}{D:List bw}{i n R:Nat}{k:List Item}{cs:List ai}{w:ah}
theorem aaU(c:T[5]?=ak (.slice (ak ⟨R,0,ax⟩) n n))(f:T[6]?=ak (.int .i64 i))(hi:i<n):stepG ay aV (G (uP.at ⟨T,D⟩ (.inRegion oP [25,26]::k)) cs) w=.go (G (uP.at ⟨T.setIfInBounds 30 (.pointer (ak ⟨R,6*i,ax⟩)),D⟩ (.inRegion oP [26]::k)) cs) w #[]:=by
 have e5:(⟨T,D⟩:Act).eval (.tmp 5)=.slice (ak ⟨R,0,ax⟩) n n:=by simp[Act.eval,aG,c]
 have e6:(⟨T,D⟩:Act).eval (.tmp 6)=.int .i64 i:=by simp[Act.eval,aG,f]
 have b:(i:Int)<(n:Int):=by omega
 have a:(0:Int)<=(i:Int):=by omega
 have d:(execOp (⟨T,D⟩:Act).eval CC).run ay w=.ok (.value (.pointer (ak ⟨R,6*i,ax⟩))) w:=by unfold execOp;simp only[F8.2.1,e5,e6];simp[go_sem,b,a]<;>omega
 have e:(execOp (⟨T,D⟩:Act).eval CC).events ay w #[]=#[]:=by unfold execOp;simp only[F8.2.1,e5,e6];simp[go_sem,b,a]
 rw[stepG_value F8.1 (by simp[Region.wanted,F8.2.2.2]) (by decide) d];unfold listed;rw[e,seen_none];rfl
theorem ZC{x:Array aK}{c:Array aK}(g:T[30]?=ak (.pointer (ak ⟨R,6*i,ax⟩)))(m:T[29]?=ak (.agg x))(d:x.size=6)(u:∀v∈x,v.oneCell'=aX)(A:w.heap[R]?=ak (.cells c 202))(C:c.size=6*n)(hi:i<n):∃w' a es,stepG ay aV (G (uP.at ⟨T,D⟩ (.inRegion oP [26]::k)) cs) w=.go (G (uP.at ⟨T,D⟩ (.inRegion oP []::k)) cs) w' es/\(w'.heap.size=w.heap.size/\w'.os=w.os/\w'.output=w.output)/\(∀b,b≠R->w'.heap[b]?=w.heap[b]?)/\w'.heap[R]?=ak (.cells a 202)/\a.size=c.size/\(∀k,k<6->a[6*i+k]?=x[k]?)/\(∀k,(k<6*i\/6*i+6<=k)->a[k]?=c[k]?)/\∀e∈es,∃k,k<6/\e=⟨.cell ⟨R,6*i+k,ax⟩,aX,aV⟩:=by
 have o:(⟨T,D⟩:Act).eval (.tmp 30)=.pointer (ak ⟨R,6*i,ax⟩):=by simp[Act.eval,aG,g]
 have l:(⟨T,D⟩:Act).eval (.tmp 29)=.agg x:=by simp[Act.eval,aG,m]
 obtain⟨w',a,es,k1,k2,k3,k4,k5,k6,z,p⟩:=O9 (P:=ay) R (6*i) 202 x.toList 0 c w #[] A (by simp[d];omega) (λv r=>u v (by simpa using r));have q:(execOp (⟨T,D⟩:Act).eval Ao).runT ay w #[]=(.ok .skip w',es):=by unfold execOp;simp only[GO.2.1,o,l];(have hs:(Instr.storeAt 202 (.pointer (ak ⟨R,6*i,ax⟩)) (.agg x)).runT ay w #[]=(.ok () w',es):=by(have s:(sizeOf 202).events ay w #[]=#[]:=by simp[go_sem]);(have j:(sizeOf 202).runT ay w #[]=(.ok 6 w,#[]):=by rw[Sem.runT_eq,Tryz.sizeOf202,s]);show(storeVar 202 ⟨R,6*i,ax⟩ (.agg x)).runT ay w #[]=_;unfold storeVar;rw[ot,j];simp only[Value.cells,d,ne_eq,not_true_eq_false,if_false];rw[show(bD ay (do pure PUnit.unit;storeCells ⟨R,6*i,ax⟩ x.toList) w #[])=_ from k1];simp);rw[ot,hs];rfl
 have t:(execOp (⟨T,D⟩:Act).eval Ao).run ay w=.ok .skip w':=by have:=congrArg Prod.fst q;rw[bK]at this;exact this
 have y:(execOp (⟨T,D⟩:Act).eval Ao).events ay w #[]=es:=congrArg Prod.snd q;refine⟨w',a,es,?_,k2,k3,k4,k5,λk hk=>by simpa using k6 k (by simpa[d]using hk),λk hk=>z k (by simpa[d]using hk),λe h=>?_⟩;·rw[stepG_none GO.1 (by simp[Region.wanted,GO.2.2.2]) (by decide) t];unfold listed;have B:seen ay uP.fn es=es:=seen_eq acn (λe h f=>by obtain⟨k,_,_,rfl⟩:=p e h;simp);rw[y,B,GO.2.2.1];rfl
 ·obtain⟨k,_,q2,rfl⟩:=p e h;exact⟨k,by simpa[d]using q2,rfl⟩
end
end
end Go.Proofs.YtldeiiffabfmeaaGreatDoor
