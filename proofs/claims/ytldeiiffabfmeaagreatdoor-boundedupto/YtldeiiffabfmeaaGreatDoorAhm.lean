/- - -/
import Derived.Conc.CrowdStepW
import Derived.Test.YtldeiiffabfmeaaGreatDoorAgm
set_option linter.all false
set_option maxRecDepth 100000
set_option maxHeartbeats 4000000
open Go renaming undef->WG,World->WH,Goroutine->WK,Value->WO,Program->WX,Frame->WY,Event->W6,Code->W7,Deferred->Xm,Addr->Xp,Trace->Xt,HappensBefore->Xu,FuncId->Xz,TypeId->XA,CallKind->XE
open Option renaming none->WI,some->WJ,getD_some->WT,map_eq_some_iff->WV,map_some->Xo
open Go.Proofs.Tryz renaming prog->WL,f109->Xg,f131->XF,func131->XI
open Go.ConcN renaming cnt->WM,Mode->Xd,WgLive->Xh,CTag->XK
open Go.MemAct renaming ofEvent->WN,touch?->WU,low->XM
open Go.MemOp renaming ofEvents->WQ
open Go.Conc renaming mem_ofEvents->WR,Deaf_other->W4,Goes->XC,Deaf_own->XJ,Deaf->XL
open Option.some renaming injEq->WZ,inj->W8
open Array renaming getD_eq_getD_getElem?->W0,mem_of_getElem?->W5,getElem?_setIfInBounds_ne->Xb,getElem?_eq_getElem->Xl,mem_append->XB
open Bool renaming false->W3,true->Xe,false_eq_true->Xv
open Go.ConcN.RW renaming refl->W9
open Nat renaming le_trans->Xa,lt_of_not_le->Xn,le_refl->Xq,lt_of_lt_of_le->Xw,lt_or_ge->Xx,le_of_not_lt->Xy,strongRecOn->XD
open Go.Conc.Goes renaming cases->Xc,running->XG,rely->XO
open Go.ConcR renaming Payload->Xf,again_blocked->XH,WgAt->XN
open Go.Value renaming oneCell'->Xi
open Go.ConcN.Mode renaming last->Xj
open Classical renaming byContradiction->Xk
open Go.World renaming cell?->Xr
open Go.Loc renaming low->Xs
namespace Go.Rel
section
open Go.Conc Go.ConcN
structure Kn(Old:Loc->Prop)(Wk:Nat->Prop)(t:Xt):Prop where
 known:∀i a g,touchAt t i=WJ a->a.loc.isMemory=Xe->t.g? i=WJ g->Wk g\/Knows t 0 i\/(Old a.loc/\a.kind=.atomic)
 over:∀i g,t.g? i=WJ g->g≠0->t.counts i->Wk g\/∃j,t.g? j=WJ 0/\Xu t i j
structure kH(Sh:Loc->Prop)(a:Xp)(t:Xt)(k r:Nat):Prop extends RelBy a t k r where
 ig:∀i x,r<i->t.g? i=WJ k->touchAt t i=WJ x->Sh x.loc
section
variable{Sh Old:Loc->Prop}{Wk:Nat->Prop}{t u:Xt}
theorem qw{t:Xt}{i:Nat}{op:MemOp}(h:t[i]?=WJ op):t.g? i=WJ op.g:=by simp[Trace.g?,h]
theorem Kn.begin{Shun:Loc->Prop}{B:Nat}(h:Past Shun B t):Kn Shun (λ_=>False) t:=⟨λi a g f b _=>.inr (h.known i a f b),λi g e c d=>.inr (h.over i g e c d)⟩
theorem Kn.mono{Wk':Nat->Prop}(h:Kn Old Wk t)(c:∀g,Wk g->Wk' g):Kn Old Wk' t:=⟨λi a g j d b=>(h.known i a g j d b).imp (c g) id,λi g b f e=>(h.over i g b f e).imp (c g) id⟩
theorem Kn.app(h:Kn Old Wk t)(w:∀op∈u,op.g=0\/Wk op.g\/op.act.touch?=WI):Kn Old Wk (t++u):=by
 refine⟨λi a g A B m=>?_,λi g m v y=>?_⟩;·obtain⟨x,d,c⟩:=touch_of A;rcases getElem?_append_cases d with⟨hi,n⟩|⟨_,q⟩;(·exact(h.known i a g (by rw[touchAt_of n];exact c) B (by rw[<-g?_old (u:=u) hi];exact m)).imp id (Or.imp (·.app u) id));·(have e:g=x.g:=by have:=qw d;rw[m]at this;exact W8 this);rcases w x q with b|b|b;(·have:=knows_own d;rw[b]at this;exact .inr (.inl this));(·exact .inl (e▸b));·rw[b]at c;cases c
 ·obtain⟨x,d,p⟩:=y;obtain⟨op,l,k⟩:=touch_of d;rcases getElem?_append_cases l with⟨hi,s⟩|⟨_,f⟩;(·refine(h.over i g (by rw[<-g?_old (u:=u) hi];exact m) v ((counts_old hi).1 ⟨x,d,p⟩)).imp id λ⟨j,o,D⟩=>?_;(have r:j<t.size:=by unfold Trace.g? at o;obtain⟨z,C,_⟩:=WV.1 o;exact lt_size_of_getElem? C);exact⟨j,by rw[g?_old r];exact o,hb_app u D⟩);·(have e:g=op.g:=by have:=qw l;rw[m]at this;exact W8 this);rcases w op f with b|b|b;(·exact absurd (e.trans b) v);(·exact .inl (e▸b));·rw[b]at k;cases k
theorem kH.app{a:Xp}{g r:Nat}(h:kH Sh a t g r)(n:∀op∈u,op.g=g->∀x,op.act.touch?=WJ x->Sh x.loc)(m:∀i,t.size<=i->(t++u).g? i=WJ g->¬(t++u).counts i):kH Sh a (t++u) g r:=by
 refine⟨h.toRelBy.app m,λi x hi k l=>?_⟩;obtain⟨op,c,d⟩:=touch_of l;rcases getElem?_append_cases c with⟨j,b⟩|⟨_,f⟩;·exact h.ig i x hi (by rw[<-g?_old (u:=u) j];exact k) (by rw[touchAt_of b];exact d)
 ·(have e:g=op.g:=by have:=qw c;rw[k]at this;exact W8 this);exact n op f e.symm x d
theorem QD{B:Nat}{a:Xp}{q:Nat}(hk:Kn Old Wk t)(K:∀g,Wk g->g≠0)(all:∀g,Wk g->∃r,kH Sh a t g r/\r<q)(F:NoRelease a t)(E:t.act? q=WJ (.mark (.acquire a)))(w:t.g? q=WJ 0)(D:t.heard q)(nr:∀o,¬Race o t)(hd:XL t 0=0)(G:∀op∈t,op.act.low B):Past (λl=>Old l\/Sh l) B t:=by
 have m:∀{g r:Nat},kH Sh a t g r->r<q->Xu t r q:=λd b=>.single (.inr ⟨.marked b (.inr d.act) E (λk _ _=>F k),d.heard,D⟩);have upto:∀{g r i:Nat},kH Sh a t g r->r<q->t.g? i=WJ g->i<=r->Xu t i q:=by intro g r i d b e h;rcases Xx i r with c|J;(·exact .trans (.single (.inl ⟨c,g,e,d.g⟩)) (m d b));·(obtain rfl:i=r:=by omega);exact m d b
 have v:∃z,t[q]?=WJ z/\z.g=0:=by unfold Trace.g? at w;obtain⟨z,y,n⟩:=WV.1 w;exact⟨z,y,n⟩
 refine⟨nr,λi x p C=>?_,λi g e H A=>?_,hd,G⟩;·obtain⟨op,j,I⟩:=touch_of p;rcases hk.known i x op.g p C (qw j)with f|f|f;(·obtain⟨r,d,b⟩:=all _ f;by_cases h:i<=r;(·obtain⟨z,y,n⟩:=v;exact .inl ⟨q,z,y,n,.inr (upto d b (qw j) h)⟩);·(have c:r<i:=by omega);refine .inr ⟨.inr (d.ig i x c (qw j) p),?_⟩;refine Xk λs=>d.after i c (qw j) ⟨x,p,C,.inl s⟩);(·exact .inl f);·exact .inr ⟨.inl f.1,f.2⟩
 ·rcases hk.over i g e H A with f|f;(·obtain⟨r,d,b⟩:=all _ f;have h:i<=r:=Xy λc=>d.after i c e A;exact⟨q,w,upto d b e h⟩);·exact f
end
end
section
open Go.Conc Go.ConcN
variable{ok ok2:ak}{ρ ρ1 ρ2:ax}{P:WX}
def j8(D:List Xm)(k:XE):List WY->Prop|[]=>False|[f]=>f.defers=D/\f.kind=k|_::f::l=>j8 D k (f::l)
theorem j8.top{D:List Xm}{k:XE}{f f':WY}{l:List WY}(h:j8 D k (f::l))(hd:f'.defers=f.defers)(hk:f'.kind=f.kind):j8 D k (f'::l):=by cases l with|nil=>exact⟨hd.trans h.1,hk.trans h.2⟩|cons g l=>exact h
theorem xv(f:WY)(v:WO):(f.finish v).defers=f.defers/\(f.finish v).kind=f.kind:=by unfold Frame.finish;split<;>exact⟨rfl,rfl⟩
theorem UC{D:List Xm}{q:XE}{l e:List WY}{w w':WH}{es:Array W6}(g:j8 D q l)(d:(own P l).runT P w #[]=(.ok e w',es)):j8 D q e:=by cases l with|nil=>cases d|cons fr cs=>obtain⟨fn,tmps,todo,defers,mode,kind,round⟩:=fr;(have aZ:∀{k:List Item}{m:FrameMode},(Sem.pure (⟨fn,tmps,k,defers,m,kind,round⟩::cs)).runT P w #[]=(.ok e w',es)->j8 D q e:=by intro k m h;cases h;exact g.top rfl rfl);(have fin:∀{v:WO}{w2:WH}{p:Array W6},(Sem.pure (Frame.finish ⟨fn,tmps,todo,defers,mode,kind,round⟩ v::cs)).runT P w2 p=(.ok e w',es)->j8 D q e:=by intro v w2 p h;cases h;exact g.top (xv _ _).1 (xv _ _).2);unfold own at d;simp only at d;cases mode with|panicking c=>cases d|returning=>(cases cs with|nil=>cases d|cons c cs=>cases u:P.funcs[fn]? with|none=>rw[u]at d;cases d|some f=>rw[u]at d;simp only at d;rw[fx]at d;cases A:(results f tmps).runT P w #[]with|mk r s=>rw[A]at d;cases r with|halt x w1=>cases d|ok v w1=>cases d;exact j8.top (f:=c) g (xv _ _).1 (xv _ _).2)|run=>cases todo with|nil=>exact aZ d|cons it k=>cases it with|code c=>(cases c with|skip=>exact aZ d|ret=>exact aZ d|seq a b=>exact aZ d|block id b=>exact aZ d|loop b=>exact aZ d|cond c x y=>simp only at d;split at d;(·exact aZ d);·cases d|exit id=>simp only at d;split at d;(·exact aZ d);·cases d|region id ops j=>simp only at d;(cases j with|false=>exact aZ d|true=>simp only[Bool.not_true,Xv,if_false]at d;rw[fx]at d;simp only[choose,Sem.runT,Question.forced,Xv,if_false]at d;cases d;exact g.top rfl rfl)|_=>cases d)|inBlock id=>exact aZ d|inLoop b=>exact aZ d|inRegion ops l=>(cases l with|nil=>exact aZ d|cons i rest=>simp only at d;cases t:ops[i]? with|none=>rw[t]at d;exact fin d|some o=>rw[t]at d;simp only at d;split at d;(·rw[fx]at d;generalize(execOp _ o).runT P w #[]=z at d;obtain⟨r,s⟩:=z;cases r with|halt x w1=>cases d|ok n w1=>cases n with|value v=>exact fin d|skip=>exact fin d|enter f args=>cases d;exact g|_=>cases d);·exact fin d)|_=>cases d
theorem SL(F:Fits ok P)(B:eF ok P)(c:Bool)(base:List WY){l la:List WY}{wh w:WH}(o:eA ok P ρ l la)(g:bh ok ρ wh w)(z:g9 ok ρ)(hd:jG ok P l)(h:∀C d,∃A w' es,(own P l).runT P (wh.re C d) #[]=(.ok A w',es))(d:Nat):∃ρ1 l1 w1 e fr X n cs' a es',la=fr::X/\(own P l).runT P (wh.re w.tape d) #[]=(.ok l1 w1,e)/\stepG P c (G fr (X++base)) (w.at d)=.go (G n (cs'++base)) a (seen P fr.fn es')/\eA ok P ρ1 l1 (n::cs')/\jd ok ρ ρ1 (wh.re w.tape d) w1 (w.at d) a es'/\∀D k,j8 D k la->j8 D k (n::cs'):=by
 obtain⟨l1,w1,e,s⟩:=h w.tape d;have p:bh ok ρ (wh.re w.tape d) (w.at d):=⟨g.inj,g.gs,g.zero,g.obj,g.out⟩;obtain⟨ρ1,b,a,es',j,x,v⟩:=sQ (P:=P) _ (esa:=#[]) (rO F B g.inj z o hd) p s (λi hi=>rfl);simp only[Array.empty_append]at j;obtain⟨fr,X,rfl⟩:∃fr X,la=fr::X:=by cases o with|one=>exact⟨_,_,rfl⟩|cons=>exact⟨_,_,rfl⟩
 have m:∃f,fa ok P ρ f fr:=by cases o with|one h=>exact⟨_,h⟩|cons h=>exact⟨_,h⟩
 obtain⟨f0,t⟩:=m;have q:fr.mode=.returning->Plain fr:=by intro y;cases o with|cons _ E _=>exact E|one _=>unfold own at j;simp only[y]at j;cases j
 obtain⟨n,cs',rfl,r⟩:=xi c base t.lq t.early q j;exact⟨ρ1,l1,w1,e,fr,X,n,cs',a,es',rfl,s,r,x,v,λD k u=>UC u j⟩
section
variable{wh w1 wh2 w wa1:WH}{es:Array W6}
theorem zl(D:jd ok ρ ρ1 wh w1 w wa1 es){a:Nat}(f:a<w.heap.size)(g:∀b,ρ b a->cG wh b):wa1.heap[a]?=w.heap[a]?:=by
 by_cases e:∃c,ρ c a;·obtain⟨c,d⟩:=e;exact(D.shut c (g c d)).2 a d
 ·exact D.out a f λc d=>e ⟨c,d⟩
end
def jR:Loc->Nat->Prop|.cell a,n=>a.block=n|.obj r,n=>r=n|_,_=>False
def Ij(ρ:ax)(wh:WH)(l:Loc):Prop:=∃b a,ρ b a/\jR l a/\¬cG wh b
def Ro(ρ:ax)(wh:WH)(l:Loc):Prop:=∃b a,ρ b a/\jR l a/\cG wh b
theorem CV{l:Loc}{n:Nat}(h:jR l n):l.isMemory=Xe:=by cases l<;>first|rfl|exact h.elim
theorem xp{l:Loc}{n c:Nat}(h:jR l n)(b:jR l c):n=c:=by cases l with|cell a=>exact(show a.block=n from h).symm.trans b|obj r=>exact(show r=n from h).symm.trans b|_=>exact h.elim
theorem Hd{w1:WH}{e:W6}(h:mC ρ w1 e){x:Touch}(d:(WN e).touch?=WJ x):x.kind=.plain/\(Ij ρ w1 x.loc\/(Ro ρ w1 x.loc/\x.write=W3)):=by obtain⟨j,wr,l⟩:=e;cases j with|cell a=>obtain⟨i,b,c,g⟩:=h;simp only at i c g;subst i;simp only[WN,WU,WZ]at d;subst d;refine⟨rfl,?_⟩;by_cases hs:cG w1 b;(·exact .inr ⟨⟨b,a.block,c,rfl,hs⟩,by cases wr with|false=>rfl|true=>exact absurd hs (g rfl)⟩);·exact .inl ⟨b,a.block,c,rfl,hs⟩|obj r=>obtain⟨i,b,c,g⟩:=h;simp only at i c g;subst i;(have e:WN ⟨.obj r,wr,W3⟩=.access ⟨.obj r,wr,W3⟩:=by cases wr<;>rfl);rw[e]at d;simp only[WU,WZ]at d;subst d;refine⟨rfl,?_⟩;by_cases hs:cG w1 b;(·exact .inr ⟨⟨b,r,c,rfl,hs⟩,by cases wr with|false=>rfl|true=>exact absurd hs (g rfl)⟩);·exact .inl ⟨b,r,c,rfl,hs⟩|mark m=>have k:m.bare:=h;(cases m with|extern f=>simp[WN,WU]at d|noRoom=>simp[WN,WU]at d|_=>exact k.elim)|_=>exact h.elim
theorem Pg{Sh Old:Loc->Prop}{Wk:Nat->Prop}{Own Rd:Nat->Loc->Prop}{w1:WH}(d:∀b a,ρ b a->∀l,jR l a->¬Sh l/\¬Old l)(c:∀g,Wk g->∀b a l,ρ b a->jR l a->¬Own g l/\(¬cG w1 b->¬Rd g l)){e:W6}(h:mC ρ w1 e)(fn:Xz)(pos:String):qZ Sh Old Wk Own Rd {g:=0,fn,pos,act:=.ofEvent e}:=by
 refine⟨rfl,λx k=>.inr ?_⟩;obtain⟨_,j⟩:=Hd h k;have key:∃b a,ρ b a/\jR x.loc a/\(x.write=Xe->¬cG w1 b):=by rcases j with⟨b,a,p,q,r⟩|⟨⟨b,a,p,q,_⟩,r⟩;(·exact⟨b,a,p,q,λ_=>r⟩);·exact⟨b,a,p,q,λc=>by rw[r]at c;cases c⟩
 obtain⟨b,a,p,q,r⟩:=key;obtain⟨s1,s2⟩:=d b a p x.loc q;exact⟨s1,λh=>absurd h s2,λg f=>(c g f b a x.loc p q).1,λi g f=>(c g f b a x.loc p q).2 (r i)⟩
end
section
open Go.Conc Go.ConcN Go.RowKit Go.Conc.Lib Go.ConcR.Gen Go.ConcN.Gen
open Go.ConcR(KK wgBlock WgAt stA smA rd wr mk Payload DC0)
variable[Xf]{L:WgLink}{P:WX}
def RA(ty:XA)(Wg:Nat)(w a:WH):Prop:=Xh ty Wg w->Xh ty Wg a
theorem aj{ty:XA}{Wg:Nat}{w a:WH}(h:Xh ty Wg w)(r:RA ty Wg w a):Xh ty Wg a:=r h
def iS(P:WX)(m:Mark)(a:WK->WH->Prop)(g:WK)(w:WH):Prop:=g.status=.running/\∃g',stepG P Xe g w=.go g' w #[mk m]/\a g' w
def dI(P:WX)(ty:XA)(Wg:Nat)(Stop:WK->WH->Prop)(g:WK)(w:WH):Prop:=∃m,XC P Xe (RA ty Wg) DC0 Stop m g w
def Hf(P:WX)(ty:XA)(Wg:Nat)(a:WK->WH->Prop)(g:WK)(w:WH):Prop:=g.status=.running/\∀v:Nat,v<2147483647->XN ty Wg w (v*KK) 0->∃g',stepG P Xe g w=.go g' (w.setCell (stA Wg) (.int .u64 ((v+1)*KK))) #[rd (stA Wg),wr (stA Wg)]/\a g' (w.setCell (stA Wg) (.int .u64 ((v+1)*KK)))
omit[Payload]in theorem yS{a:Bool}{R:WH->WH->Prop}{D:WH->WH->Array W6->Prop}{S:WK->WH->Prop}{n b:Nat}{g:WK}{w:WH}(h:XC P a R D S n g w)(c:n<=b):XC P a R D S b g w:=by induction c with|refl=>exact h|step _ d=>exact d.more
end
section
open Go.Conc Go.ConcN
open Go.ConcR(KK wgBlock WgAt stA smA rd wr mk Payload DC0 Bk g_of_ofEvents)
structure Gh where
 ρ:ax
 l:List WY
 wh:WH
 bs:Nat
structure dU where
 ty:XA
 Wg:Nat
 C:Nat
 R:Nat
 Fa:XA
 FL:Nat
 val:WO
 n0:Nat
 N0:Nat
 N1:Nat
 w1:WH
 Still:Nat->Prop
 Old:Loc->Prop
 ok:ak
 base:List WY
 defers:List Xm
 kind:XE
 S:Nat->List WY->WH->Prop
 lo:Nat->Nat
 hi:Nat->Nat
 nH:Nat->Gh->(Nat->Option WO)->Prop
section
variable[Xf](J:dU)
def fi(w:WH):Prop:=∃cs:Array WO,w.heap[J.R]?=WJ (.cells cs J.Fa)/\cs.size=J.FL
def yY(w:WH):Prop:=w.heap[J.C]?=WJ (.cells #[J.val] Payload.ety)
def rowOf(i:Nat)(w:WH)(o:Nat):Option WO:=if J.lo i<=o/\o<J.hi i then w.cell? ⟨J.R,o,WI⟩else WI
def Out(i:Nat)(E:Gh)(w:WH):Prop:=J.nH i E (rowOf J i w)
structure RT(i:Nat)(w w₁:WH):Prop where
 live:Xh J.ty J.Wg w->Xh J.ty J.Wg w₁
 var:w₁.heap[J.C]?=w.heap[J.C]?
 row:fi J w->fi J w₁
 cells:∀o,J.lo i<=o->o<J.hi i->w₁.cell? ⟨J.R,o,WI⟩=w.cell? ⟨J.R,o,WI⟩
structure DT(i:Nat)(w w':WH)(es:Array W6):Prop where
 size:w'.heap.size=w.heap.size
 block:∀b,b≠J.R->w'.heap[b]?=w.heap[b]?
 row:fi J w->fi J w'
 cells:∀o,¬(J.lo i<=o/\o<J.hi i)->w'.cell? ⟨J.R,o,WI⟩=w.cell? ⟨J.R,o,WI⟩
 ev:∀e∈es,∃o wr,e=⟨.cell ⟨J.R,o,WI⟩,wr,W3⟩/\J.lo i<=o/\o<J.hi i
 os:w'.os=w.os
 output:w'.output=w.output
end
section
variable[Xf]{J:dU}{i:Nat}{w w₁ w₂:WH}
theorem RT.refl(w:WH):RT J i w w:=⟨id,rfl,id,λ_ _ _=>rfl⟩
theorem RT.trans(h:RT J i w w₁)(c:RT J i w₁ w₂):RT J i w w₂:=⟨c.live∘h.live,c.var.trans h.var,c.row∘h.row,λo a b=>(c.cells o a b).trans (h.cells o a b)⟩
theorem RT.at(w:WH)(d:Nat):RT J i w (w.at d):=⟨id,rfl,id,λ_ _ _=>rfl⟩
theorem RT.rw(h:RT J i w w₁):RW J.ty J.Wg J.C 1 0 0 w w₁:=⟨λb c=>absurd c (by omega),h.live,λ⟨cs,a,b⟩=>⟨cs,h.var.trans a,b⟩,cell_of_block h.var 0⟩
theorem Qo(h:∀o,J.lo i<=o->o<J.hi i->w₁.cell? ⟨J.R,o,WI⟩=w.cell? ⟨J.R,o,WI⟩):rowOf J i w₁=rowOf J i w:=by
 funext o;unfold rowOf;split;·rename_i x;exact h o x.1 x.2
 ·rfl
theorem RT.out(h:RT J i w w₁){E:Gh}(a:Out J i E w):Out J i E w₁:=by unfold Out at*;rw[Qo h.cells];exact a
end
inductive WS [Xf](P:WX)(J:dU)(i:Nat)(E:Gh):Nat->Nat->Nat->Nat->WK->WH->Prop|pre{m:Nat}{g:WK}{w:WH}(hs:Safe J.ok P (J.S i) E.l E.wh)(h:XC P W3 (RW J.ty J.Wg J.C 1 0 0) DC0 (λg _=>∃f X,g=G f (X++J.base)/\eA J.ok P E.ρ E.l (f::X)/\j8 J.defers J.kind (f::X)) m g w):WS P J i E 2 7 m 0 g w|gh{f:WY}{X:List WY}{w:WH}(hs:Safe J.ok P (J.S i) E.l E.wh)(h:eA J.ok P E.ρ E.l (f::X))(hb:j8 J.defers J.kind (f::X)):WS P J i E 1 7 0 0 (G f (X++J.base)) w|tail{m:Nat}{g:WK}{w:WH}(h:XC P W3 (RT J i) (DT J i) (λg w=>AtR0 P J.ty J.Wg J.C 1 0 1 J.val g w/\Out J i E w) m g w):WS P J i E 0 7 m 0 g w|n7{s m d:Nat}{g:WK}{w:WH}(hs:s<=6)(h:WSit P J.ty J.Wg J.C 1 (λ_ _=>False) (λ_ _=>False) 0 1 J.val s m d g w):WS P J i E 0 s m d g w
section
variable[Xf]{P:WX}{J:dU}{i:Nat}{E:Gh}{u s m d:Nat}{g:WK}{w w₁:WH}
theorem WS.rely(h:WS P J i E u s m d g w)(c:RT J i w w₁):WS P J i E u s m d g w₁:=by cases h with|pre hs h=>exact .pre hs (XO (λ_ _ _ a b=>a.trans b) h c.rw)|gh hs h e=>exact .gh hs h e|tail h=>exact .tail (XO (λ_ _ _ a b=>a.trans b) h c)|n7 hs h=>exact .n7 hs (h.rely c.rw)
theorem WS.status(h:WS P J i E u s m d g w):g.status=.running\/g.status=.finished:=by cases h with|pre hs h=>exact .inl (XG (λg w⟨f,X,e,_⟩=>by rw[e];rfl) w (W9 w) h)|gh hs h a=>exact .inl rfl|tail h=>exact .inl (XG (λg w x=>x.1.1) w (RT.refl w) h)|n7 hs h=>exact h.status
theorem WS.woken(h:WS P J i E u s m d g w)(a a':WK)(w':WH):woken P a a' w' g=g:=by
 unfold Go.Conc.woken;split;·exact again_running _ h.status
 ·rfl
end
def oX(J:dU)(j:Nat)(E:Nat->Gh)(g:Nat)(l:Loc):Prop:=∃i,i<j/\g=J.n0+i/\((∃b a,(E i).ρ b a/\(E i).bs<=a/\jR l a)\/∃o,l=.cell ⟨J.R,o,WI⟩/\J.lo i<=o/\o<J.hi i)
def pK(J:dU)(j:Nat)(E:Nat->Gh)(g:Nat)(l:Loc):Prop:=∃i,i<j/\g=J.n0+i/\∃b a,(E i).ρ b a/\a<(E i).bs/\jR l a
def Wk(J:dU)(j g:Nat):Prop:=J.n0<=g/\g<J.n0+j
structure Stat(J:dU):Prop where
 rw:J.R≠J.Wg
 cw:J.C≠J.Wg
 rc:J.R≠J.C
 apart:∀i i' o,J.lo i<=o->o<J.hi i->J.lo i'<=o->o<J.hi i'->i=i'
 By:∀a:Xp,a.block=J.Wg->¬J.Old (.cell a)
 CG:∀l,jR l J.R->¬J.Old l
 low:∀l,J.Old l->l.low J.N0
 pos:0<J.n0
structure Mem [Xf](ok:ak)(J:dU)(j:Nat)(E:Nat->Gh)(ρ0:ax)(wh0 w:WH):Prop where
 dh:bh ok ρ0 wh0 w
 mv:g9 ok ρ0
 rel:∀i,i<j->bh J.ok (E i).ρ (E i).wh w
 cU:∀i,i<j->g9 J.ok (E i).ρ
 mN:∀i,i<j->∀b b',(E i).ρ b b'->(E i).bs<=b'->(∀i',i'<j->i'≠i->∀c,¬(E i').ρ c b')/\∀c,¬ρ0 c b'
 nD:∀i,i<j->∀b b',(E i).ρ b b'->b'<(E i).bs->cG (E i).wh b
 kD:∀i,i<j->∀b c b',ρ0 b b'->(E i).ρ c b'->cG wh0 b
 lz:∀b b',ρ0 b b'->b'<ok.old.heap.size->cG wh0 b
 gU:∀i,i<j->∀b b',(E i).ρ b b'->b'≠J.Wg/\b'≠J.R/\(b'=J.C->b'<(E i).bs)/\∀l,jR l b'->¬J.Old l
 jw:∀b b',ρ0 b b'->b'≠J.Wg/\b'≠J.R/\(b'=J.C->cG wh0 b)/\∀l,jR l b'->¬J.Old l
 kO:∀i,i<j->(E i).bs<=w.heap.size/\ok.old.heap.size<=(E i).bs
 lt:J.Wg<w.heap.size/\J.C<w.heap.size/\J.R<w.heap.size/\J.N0<=w.heap.size/\ok.old.heap.size<=J.Wg/\ok.old.heap.size<=J.R
 var:yY J w
 row:fi J w
 aJ:∀b',b'<ok.old.heap.size->w.heap[b']?=ok.old.heap[b']?
 still:∀b',J.Still b'->w.heap[b']?=J.w1.heap[b']?/\b'≠J.Wg/\b'≠J.R/\b'<J.N1/\∀b,ρ0 b b'->cG wh0 b
 n1:J.N1<=w.heap.size/\∀i,i<j->J.N1<=(E i).bs
section
variable[Xf]{ok:ak}{J:dU}{j:Nat}{E:Nat->Gh}{ρ0:ax}{wh0 w:WH}
theorem Mem.yE(X:Stat J)(h:Mem ok J j E ρ0 wh0 w):yo (ShN J.Wg) J.Old (Wk J j) (oX J j E) (pK J j E):=by
 have same:∀{i n b:Nat}{k c:Nat},i<j->n<j->(E i).ρ b k->(E i).bs<=k->(E n).ρ c k->n=i:=by intro i n b k c hi f B H L;exact Xk λG=>(h.mN i hi b k B H).1 n f G c L
 have K:∀{i b o:Nat},i<j->¬(E i).ρ b J.R:=λhi B=>(h.gU _ hi _ _ B).2.1 rfl;refine⟨?_,?_,?_,?_,?_,?_⟩;·rintro g g' l _ _⟨i,hi,rfl,y⟩⟨n,f,rfl,O⟩;rcases y with⟨b,x,p,q,r⟩|⟨o,rfl,p,q⟩<;>rcases O with⟨c,F,v,D,z⟩|⟨Q,e,v,D⟩;(·obtain rfl:=xp r z;rw[same hi f p q v]);(·subst e;obtain rfl:J.R=x:=r;exact absurd rfl (h.gU i hi _ _ p).2.1);(·obtain rfl:J.R=F:=z;exact absurd rfl (h.gU n f _ _ v).2.1);·simp only[Loc.cell.injEq,Addr.mk.injEq,true_and,and_true]at e;subst e;rw[X.apart i n o p q v D]
 ·rintro g g' l _ _⟨i,hi,rfl,y⟩⟨n,f,rfl,c,F,v,D,z⟩;rcases y with⟨b,x,p,q,r⟩|⟨o,rfl,p,q⟩;(·obtain rfl:=xp r z;obtain rfl:=same hi f p q v;omega);·obtain rfl:J.R=F:=z;exact absurd rfl (h.gU n f _ _ v).2.1
 ·rintro g l _⟨i,hi,rfl,y⟩;rcases y with⟨b,x,p,q,r⟩|⟨o,rfl,p,q⟩;(·obtain⟨A,M,N,C⟩:=h.gU i hi _ _ p;refine⟨?_,C l r,CV r⟩;rintro⟨a,rfl,t⟩;exact A ((show a.block=x from r).symm.trans t));·refine⟨?_,λI=>?_,rfl⟩;(·rintro⟨a,e,t⟩;simp only[Loc.cell.injEq]at e;subst e;exact X.rw t);·exact X.CG (.cell ⟨J.R,o,WI⟩) rfl I
 ·rintro g l _⟨i,hi,rfl,b,x,p,q,r⟩;obtain⟨A,M,N,C⟩:=h.gU i hi _ _ p;refine⟨?_,C l r,CV r⟩;rintro⟨a,rfl,t⟩;exact A ((show a.block=x from r).symm.trans t)
 ·rintro l I⟨a,rfl,t⟩;exact X.By a t I
 ·rintro g⟨y,_⟩;have:=X.pos;omega
theorem Tl.congr{Sh Old:Loc->Prop}{Wk:Nat->Prop}{Own Rd f k:Nat->Loc->Prop}{t:Xt}(h:Tl Sh Old Wk Own Rd t)(o:∀g l,Wk g->(f g l↔Own g l))(p:∀g l,Wk g->(k g l↔Rd g l)):Tl Sh Old Wk f k t:=⟨h.quiet,λg e l n=>h.own g e l ((o g l e).1 n),λg e l n=>h.rd g e l ((p g l e).1 n),λl a b c d=>h.free l a b c λg e=>⟨λx=>(d g e).1 ((o g l e).2 x),λx=>(d g e).2 ((p g l e).2 x)⟩,λl a b c d=>h.mine l a b c λg e x=>d g e ((o g l e).2 x),h.old,h.nr⟩
theorem GL{op:MemOp}{B:Nat}(h:op.act.low B){x:Touch}(a:op.act.touch?=WJ x):x.loc.low B:=by obtain⟨g,fn,pos,b⟩:=op;simp only at h a;cases b with|access e=>simp only[WU,WZ]at a;subst a;exact h|mark m=>cases m<;>simp only[WU,WZ,reduceCtorEq]at a<;>(subst a;exact h)|_=>simp[WU]at a
structure pG(J:dU)(i:Nat)(e E':Gh)(w w':WH):Prop where
 bs:E'.bs=e.bs
 rel:bh J.ok E'.ρ E'.wh w'
 le:e.ρ.le E'.ρ
 new:∀b b',E'.ρ b b'->e.ρ b b'\/w.heap.size<=b'
 shut:∀b b',E'.ρ b b'->b'<e.bs->cG E'.wh b
 size:w.heap.size<=w'.heap.size
 block:∀b',b'<w.heap.size->(∀c,e.ρ c b'->b'<e.bs)->b'≠J.Wg->b'≠J.R->w'.heap[b']?=w.heap[b']?
theorem qG{ok:ak}{ρ:ax}{wh w w':WH}(h:bh ok ρ wh w)(hs:w.heap.size<=w'.heap.size)(f:∀b a,ρ b a->w'.heap[a]?=w.heap[a]?)(c:w'.os=w.os/\w'.output=w.output):bh ok ρ wh w':=⟨h.inj,⟨h.gs.1,Xa h.gs.2 hs⟩,h.zero,λ{b a}x=>by obtain⟨o,e,e1,e2,e3⟩:=h.obj x;exact⟨o,e,e1,(f b a x).trans e2,e3⟩,⟨c.1.trans h.out.1,c.2.trans h.out.2⟩⟩
theorem AJ{ok:ak}{ρ a:ax}{wh wh' w w':WH}(h:bh ok ρ wh w)(b:bh ok a wh' w'):w'.os=w.os/\w'.output=w.output:=⟨b.out.1.trans h.out.1.symm,b.out.2.trans h.out.2.symm⟩
theorem Mem.stepW(X:Stat J)(h:Mem ok J j E ρ0 wh0 w){i:Nat}(hi:i<j){E':Gh}{w':WH}(D:pG J i (E i) E' w w')(Y:w'.heap[J.C]?=w.heap[J.C]?)(T:fi J w->fi J w'):Mem ok J j (upd E i E') ρ0 wh0 w':=by
 have I:∀{n b k:Nat},n<j->n≠i->(E n).ρ b k->w'.heap[k]?=w.heap[k]?:=by intro n b k f t o;obtain⟨H,B,_,_⟩:=h.gU n f b k o;refine D.block k ((h.rel n f).lt o).2 (λc p=>?_) H B;exact Xn λz=>(h.mN i hi c k p z).1 n f t b o
 have F:∀{b k:Nat},ρ0 b k->w'.heap[k]?=w.heap[k]?:=by intro b k o;obtain⟨H,B,_,_⟩:=h.jw b k o;refine D.block k (h.dh.lt o).2 (λc p=>?_) H B;exact Xn λz=>(h.mN i hi c k p z).2 b o
 have v:∀{b k:Nat},w.heap.size<=k->(∀n,n<j->∀c,¬(E n).ρ c k)/\∀c,¬ρ0 c k:=by intro b k o;exact⟨λn f c p=>by have:=((h.rel n f).lt p).2;omega,λc p=>by have:=(h.dh.lt p).2;omega⟩
 have U:=(h.kO i hi).1;refine⟨qG h.dh D.size (λb k o=>F o) (AJ (h.rel i hi) D.rel),h.mv,λn f=>?_,λn f=>?_,λn f b k o q=>?_,λn f b k o q=>?_,λn f b c k o p=>?_,h.lz,λn f b k o=>?_,h.jw,λn f=>?_,?_,Y.trans h.var,T h.row,λk A=>?_,λk A=>?_,?_⟩;·by_cases e:n=i;(·subst e;rw[upd_same];exact D.rel);·rw[upd_ne E _ e];exact qG (h.rel n f) D.size (λb k o=>I f e o) (AJ (h.rel i hi) D.rel)
 ·by_cases e:n=i;(·subst e;rw[upd_same];exact(h.cU n f).mono D.le);·rw[upd_ne E _ e];exact h.cU n f
 ·by_cases e:n=i;(·subst e;rw[upd_same]at o q;rw[D.bs]at q;rcases D.new b k o with o|o;(·obtain⟨p1,G⟩:=h.mN n f b k o q;exact⟨λi2 y t c p=>by rw[upd_ne E _ t]at p;exact p1 i2 y t c p,G⟩);·obtain⟨p1,G⟩:=v (b:=b) o;exact⟨λi2 y t c p=>by rw[upd_ne E _ t]at p;exact p1 i2 y c p,G⟩);·rw[upd_ne E _ e]at o q;obtain⟨p1,G⟩:=h.mN n f b k o q;refine⟨λi2 y t c p=>?_,G⟩;by_cases e2:i2=i;(·subst e2;rw[upd_same]at p;rcases D.new c k p with p|p;(·exact p1 i2 y t c p);·exact(v (b:=b) p).1 n f b o);·rw[upd_ne E _ e2]at p;exact p1 i2 y t c p
 ·by_cases e:n=i;(·subst e;rw[upd_same]at o q⊢;rw[D.bs]at q;exact D.shut b k o q);·rw[upd_ne E _ e]at o q⊢;exact h.nD n f b k o q
 ·by_cases e:n=i;(·subst e;rw[upd_same]at p;rcases D.new c k p with p|p;(·exact h.kD n f b c k o p);·exact absurd o ((v (b:=b) p).2 b));·rw[upd_ne E _ e]at p;exact h.kD n f b c k o p
 ·by_cases e:n=i;(·subst e;rw[upd_same]at o⊢;rcases D.new b k o with o|o;(·obtain⟨H,B,V,Z⟩:=h.gU n f b k o;exact⟨H,B,λx=>by rw[D.bs];exact V x,Z⟩);·obtain⟨l1,Q,L,N,_⟩:=h.lt;refine⟨by omega,by omega,λx=>by omega,λl K S=>?_⟩;have:=X.low l S;cases l with|cell a=>simp only[Xs]at this;have e:a.block=k:=K;omega|obj r=>simp only[Xs]at this;have e:r=k:=K;omega|_=>exact K.elim);·rw[upd_ne E _ e]at o⊢;exact h.gU n f b k o
 ·by_cases e:n=i;(·subst e;rw[upd_same,D.bs];exact⟨Xa (h.kO n f).1 D.size,(h.kO n f).2⟩);·rw[upd_ne E _ e];exact⟨Xa (h.kO n f).1 D.size,(h.kO n f).2⟩
 ·obtain⟨l1,Q,L,N,M,O⟩:=h.lt;have:=D.size;exact⟨by omega,by omega,by omega,by omega,M,O⟩
 ·obtain⟨l1,Q,L,N,M,O⟩:=h.lt;refine(D.block k (by omega) (λc p=>?_) (by omega) (by omega)).trans (h.aJ k A);have:=(h.kO i hi).2;omega
 ·obtain⟨s1,s2,s3,W,R⟩:=h.still k A;have n1:=h.n1.1;have n2:=h.n1.2 i hi;exact⟨(D.block k (by omega) (λc p=>by omega) s2 s3).trans s1,s2,s3,W,R⟩
 ·refine⟨Xa h.n1.1 D.size,λn f=>?_⟩;by_cases e:n=i;(·subst e;rw[upd_same,D.bs];exact h.n1.2 n f);·rw[upd_ne E _ e];exact h.n1.2 n f
structure jY(ok:ak)(J:dU)(ρ0 ρ0':ax)(wh0 wh0' w w':WH):Prop where
 rel:bh ok ρ0' wh0' w'
 le:ρ0.le ρ0'
 new:∀b b',ρ0' b b'->ρ0 b b'\/w.heap.size<=b'
 shut:∀b,cG wh0 b->cG wh0' b
 size:w.heap.size<=w'.heap.size
 block:∀b',b'<w.heap.size->(∀c,ρ0 c b'->cG wh0 c)->b'≠J.Wg->w'.heap[b']?=w.heap[b']?
theorem Mem.step0(X:Stat J)(h:Mem ok J j E ρ0 wh0 w){ρ0':ax}{wh0' w':WH}(D:jY ok J ρ0 ρ0' wh0 wh0' w w'):Mem ok J j E ρ0' wh0' w':=by
 obtain⟨l1,B,F,T,Q,M⟩:=h.lt;have q:∀{i b f:Nat},i<j->(E i).ρ b f->w'.heap[f]?=w.heap[f]?:=by intro i b f hi k;obtain⟨y,A,_,_⟩:=h.gU i hi b f k;exact D.block f ((h.rel i hi).lt k).2 (λc n=>h.kD i hi c b f n k) y
 have S:w'.heap[J.R]?=w.heap[J.R]?:=D.block J.R F (λc n=>absurd rfl (h.jw c _ n).2.1) X.rw;have O:w'.heap[J.C]?=w.heap[J.C]?:=D.block J.C B (λc n=>(h.jw c _ n).2.2.1 rfl) X.cw;have L:=D.size;refine⟨D.rel,h.mv.mono D.le,λi hi=>qG (h.rel i hi) D.size (λb f k=>q hi k) (AJ h.dh D.rel),h.cU,λi hi b f k t=>?_,h.nD,λi hi b c f k n=>?_,λb f k p=>?_,h.gU,λb f k=>?_,λi hi=>⟨Xa (h.kO i hi).1 D.size,(h.kO i hi).2⟩,⟨by omega,by omega,by omega,by omega,Q,M⟩,O.trans h.var,?_,λf o=>?_,λf o=>?_,⟨Xa h.n1.1 D.size,h.n1.2⟩⟩;·obtain⟨p1,H⟩:=h.mN i hi b f k t;refine⟨p1,λc n=>?_⟩;rcases D.new c f n with n|n;(·exact H c n);·have:=((h.rel i hi).lt k).2;omega
 ·rcases D.new b f k with k|k;(·exact D.shut b (h.kD i hi b c f k n));·have:=((h.rel i hi).lt n).2;omega
 ·rcases D.new b f k with k|k;(·exact D.shut b (h.lz b f k p));·omega
 ·rcases D.new b f k with k|k;(·obtain⟨y,A,G,I⟩:=h.jw b f k;exact⟨y,A,λx=>D.shut b (G x),I⟩);·refine⟨by omega,by omega,λx=>by omega,λl v K=>?_⟩;have:=X.low l K;cases l with|cell a=>simp only[Xs]at this;have e:a.block=f:=v;omega|obj r=>simp only[Xs]at this;have e:r=f:=v;omega|_=>exact v.elim
 ·obtain⟨cs,e1,e2⟩:=h.row;exact⟨cs,S.trans e1,e2⟩
 ·exact(D.block f (by omega) (λc n=>h.lz c f n o) (by omega)).trans (h.aJ f o)
 ·obtain⟨s1,s2,s3,N,z⟩:=h.still f o;have n1:=h.n1.1;refine⟨(D.block f (by omega) z s2).trans s1,s2,s3,N,λb k=>?_⟩;rcases D.new b f k with k|k;(·exact D.shut b (z b k));·omega
end
end
section
open Go.Conc Go.ConcN
open Go.ConcR(KK wgBlock WgAt stA smA rd wr mk Payload DC0 Bk g_of_ofEvents)
variable[Xf]
structure Cy(ok:ak)(P:WX)(J:dU)(j:Nat)(E:Nat->Gh)(D:Nat->WD)(U q:Nat->Nat)(ρ0:ax)(wh0:WH)(gs:Array WK)(w:WH)(t:Xt)(d0:Nat):Prop where
 size:gs.size=J.n0+j
 qi:∀k g,0<k->k<J.n0->gs[k]?=WJ g->QuitsD P (q k) (XL t k) g
 above:∀k,J.n0+j<=k->XL t k=0
 wk:∀i,i<j->∃g,gs[J.n0+i]?=WJ g/\WS P J i (E i) (U i) (D i).stage (D i).fuel (D i).deaf g w
 mem:Mem ok J j E ρ0 wh0 w
 tl:Tl (ShN J.Wg) J.Old (Wk J j) (oX J j E) (pK J j E) t
 kn:Kn J.Old (Wk J j) t
 norel:NoRelease (stA J.Wg) t
 deaf0:XL t 0=d0
 deafW:∀i,i<j->XL t (J.n0+i)=(D i).deaf
 rel:∀i,i<j->(D i).stage<=6->∃r,kH (ShN J.Wg) (stA J.Wg) t (J.n0+i) r
 out:∀i,i<j->(D i).stage<=6->Out J i (E i) w
 low:∀op∈t,op.act.low w.heap.size
section
variable{ok:ak}{P:WX}{J:dU}{j:Nat}{E:Nat->Gh}{D:Nat->WD}{U q:Nat->Nat}{ρ0:ax}{wh0 w w':WH}{gs:Array WK}{t:Xt}{d0:Nat}
theorem Mem.at(h:Mem ok J j E ρ0 wh0 w)(d:Nat):Mem ok J j E ρ0 wh0 (w.at d):=⟨⟨h.dh.inj,h.dh.gs,h.dh.zero,h.dh.obj,h.dh.out⟩,h.mv,λi hi=>let r:=h.rel i hi;⟨r.inj,r.gs,r.zero,r.obj,r.out⟩,h.cU,h.mN,h.nD,h.kD,h.lz,h.gU,h.jw,h.kO,h.lt,h.var,h.row,h.aJ,h.still,h.n1⟩
theorem Cy.at(h:Cy ok P J j E D U q ρ0 wh0 gs w t d0)(d:Nat):Cy ok P J j E D U q ρ0 wh0 gs (w.at d) t d0:={h with wk:=λi hi=>let⟨g,a,hs⟩:=h.wk i hi;⟨g,a,hs.rely (RT.at w d)⟩,mem:=h.mem.at d,out:=h.out,low:=h.low}
theorem Ly(X:Stat J){g:Nat}(h:Wk J j g):g≠0:=by have:=X.pos;have:=h.1;omega
theorem kH.appOther{Sh:Loc->Prop}{a:Xp}{t u:Xt}{k r g:Nat}(h:kH Sh a t k r)(l:∀op∈u,op.g=g)(m:g≠k):kH Sh a (t++u) k r:=h.app (λop c e=>absurd ((l op c).symm.trans e) m) (λi hi d=>by obtain⟨op,o,b⟩:=WV.1 d;rcases getElem?_append_cases o with⟨n,_⟩|⟨_,f⟩;(·omega);·rw[l op f]at b;exact absurd b m)
theorem zx(h:∀op∈t,op.act.low w.heap.size)(hs:w.heap.size<=w'.heap.size){g:Nat}{fn:Xz}{pos:String}{es:Array W6}(c:∀e∈es,(WN e).low w'.heap.size):∀op∈t++WQ g fn pos es,op.act.low w'.heap.size:=by
 intro op a;rcases XB.1 a with a|a;·exact MemAct.low_mono hs (h op a)
 ·obtain⟨e,b,rfl⟩:=WR a;exact c e b
theorem Cy.stepW(X:Stat J)(h:Cy ok P J j E D U q ρ0 wh0 gs w t d0){i:Nat}(hi:i<j){g g':WK}{es:Array W6}{E':Gh}{u' s' m' dd':Nat}{fn:Xz}{pos:String}(s:pG J i (E i) E' w w')(Z:w'.heap[J.C]?=w.heap[J.C]?)(G:fi J w->fi J w')(H:∀d,d<j->d≠i->RT J d w w')(R:WS P J i E' u' s' m' dd' g' w')(Q:∀op∈WQ (J.n0+i) fn pos es,wJ (ShN J.Wg) (oX J j (upd E i E')) (pK J j (upd E i E')) (J.n0+i) op)(N:∀e∈es,e.loc≠.mark (.release (stA J.Wg)))(z:deafBehind (D i).deaf es=dd')(hrel:s'<=6->∃r,kH (ShN J.Wg) (stA J.Wg) (t++WQ (J.n0+i) fn pos es) (J.n0+i) r)(F:s'<=6->Out J i E' w')(I:∀e∈es,(WN e).low w'.heap.size):Cy ok P J j (upd E i E') (upd D i ⟨s',m',dd'⟩) (upd U i u') q ρ0 wh0 ((gs.map (woken P g g' w')).setIfInBounds (J.n0+i) g') w' (t++WQ (J.n0+i) fn pos es) d0:=by
 have T:=X.pos;have v:Wk J j (J.n0+i):=⟨by omega,by omega⟩;have u:=h.mem.stepW X hi s Z G;have W:=(h.mem.kO i hi).1;refine⟨by simp[h.size],λk x hk O n=>?_,λk hk=>?_,λd c=>?_,u,?_,?_,h.norel.app (norel_of N),?_,λd c=>?_,λd c m=>?_,λd c m=>?_,zx h.low s.size I⟩;·rw[get_map_set _ _ _ _ (by omega)]at n;obtain⟨y,hy,rfl⟩:=WV.1 n;have S:=h.qi k y hk O hy;rw[woken_quitsD S,W4 t (by omega) _ g_of_ofEvents];exact S
 ·rw[W4 t (by omega) _ g_of_ofEvents];exact h.above k hk
 ·by_cases e:d=i;(·subst e;exact⟨g',get_map_set_same _ _ _ (by rw[h.size];omega),by rw[upd_same,upd_same,upd_same];exact R⟩);·obtain⟨x,n,K⟩:=h.wk d c;refine⟨x,by rw[get_map_set _ _ _ _ (by omega),n,Xo,K.woken],?_⟩;rw[upd_ne D _ e,upd_ne E _ e,upd_ne U _ e];exact K.rely (H d c e)
 ·refine Tl.appW (u.yE X) ?_ v Q;have V:=Tl.grow h.tl (g0:=J.n0+i) (New:=λl=>∃b f,E'.ρ b f/\w.heap.size<=f/\jR l f) (λk a ha⟨b,f,_,hb,B⟩=>by obtain⟨op,A,M⟩:=touch_of ha;have:=GL (h.low op (W5 A)) M;cases hloc:a.loc with|cell ad=>rw[hloc]at this B;simp only[Xs]at this;have e:ad.block=f:=B;omega|obj r=>rw[hloc]at this B;simp only[Xs]at this;have e:r=f:=B;omega|_=>rw[hloc]at B;exact B.elim);refine V.congr (λg l L=>⟨?_,?_⟩) (λg l L=>⟨?_,?_⟩);(·rintro⟨d,c,rfl,n⟩;by_cases e:d=i;(·subst e;simp only[upd_same]at n;rcases n with⟨b,f,p,o,r⟩|n;(·rcases s.new b f p with p|p;(·rw[s.bs]at o;exact .inl ⟨d,c,rfl,.inl ⟨b,f,p,o,r⟩⟩);·exact .inr ⟨rfl,b,f,‹_›,p,r⟩);·exact .inl ⟨d,c,rfl,.inr n⟩);·simp only[upd_ne E _ e]at n;exact .inl ⟨d,c,rfl,n⟩);(·rintro(⟨d,c,rfl,n⟩|⟨rfl,b,f,p,o,r⟩);(·by_cases e:d=i;(·subst e;refine⟨d,c,rfl,?_⟩;simp only[upd_same];rcases n with⟨b,f,p,o,r⟩|n;(·exact .inl ⟨b,f,s.le _ _ p,by rw[s.bs];exact o,r⟩);·exact .inr n);·exact⟨d,c,rfl,by simp only[upd_ne E _ e];exact n⟩);·refine⟨i,hi,rfl,.inl ⟨b,f,?_,?_,r⟩⟩;(·simp only[upd_same];exact p);·simp only[upd_same];rw[s.bs];omega);(·rintro⟨d,c,rfl,b,f,p,o,r⟩;by_cases e:d=i;(·subst e;simp only[upd_same]at p o;rw[s.bs]at o;rcases s.new b f p with p|p;(·exact⟨d,c,rfl,b,f,p,o,r⟩);·omega);·simp only[upd_ne E _ e]at p o;exact⟨d,c,rfl,b,f,p,o,r⟩);·rintro⟨d,c,rfl,b,f,p,o,r⟩;by_cases e:d=i;(·subst e;exact⟨d,c,rfl,b,f,by simp only[upd_same];exact s.le _ _ p,by simp only[upd_same];rw[s.bs];exact o,r⟩);·exact⟨d,c,rfl,b,f,by simp only[upd_ne E _ e];exact p,by simp only[upd_ne E _ e];exact o,r⟩
 ·exact h.kn.app λop A=>.inr (.inl (by rw[g_of_ofEvents op A];exact v))
 ·rw[W4 t (by omega) _ g_of_ofEvents];exact h.deaf0
 ·by_cases e:d=i;(·subst e;rw[XJ,h.deafW d c,upd_same];exact z);·rw[W4 t (by omega) _ g_of_ofEvents,h.deafW d c,upd_ne D _ e]
 ·by_cases e:d=i;(·subst e;rw[upd_same]at m;exact hrel m);·rw[upd_ne D _ e]at m;obtain⟨r,Y⟩:=h.rel d c m;exact⟨r,Y.appOther g_of_ofEvents (by omega)⟩
 ·by_cases e:d=i;(·subst e;rw[upd_same]at m⊢;exact F m);·rw[upd_ne D _ e]at m;rw[upd_ne E _ e];exact(H d c e).out (h.out d c m)
theorem Cy.step0(X:Stat J)(h:Cy ok P J j E D U q ρ0 wh0 gs w t d0){g g':WK}{es:Array W6}{fn:Xz}{pos:String}{ρ0':ax}{wh0':WH}(s:jY ok J ρ0 ρ0' wh0 wh0' w w')(f:Xh J.ty J.Wg w')(F:∀op∈WQ 0 fn pos es,qZ (ShN J.Wg) J.Old (Wk J j) (oX J j E) (pK J j E) op)(z:∀e∈es,e.loc≠.mark (.release (stA J.Wg)))(n:∀e∈es,(WN e).low w'.heap.size):Cy ok P J j E D U q ρ0' wh0' ((gs.map (woken P g g' w')).setIfInBounds 0 g') w' (t++WQ 0 fn pos es) (deafBehind d0 es):=by
 have I:=X.pos;obtain⟨l1,M,L,T,Q,S⟩:=h.mem.lt;have G:w'.heap[J.R]?=w.heap[J.R]?:=s.block J.R L (λc v=>absurd rfl (h.mem.jw c _ v).2.1) X.rw;have O:w'.heap[J.C]?=w.heap[J.C]?:=s.block J.C M (λc v=>(h.mem.jw c _ v).2.2.1 rfl) X.cw;have l:∀i,RT J i w w':=λi=>⟨λ_=>f,O,λ⟨cs,a,b⟩=>⟨cs,G.trans a,b⟩,λo _ _=>cell_of_block G o⟩;have p:=h.mem.step0 X s;refine⟨by simp[h.size],λk x hk B u=>?_,λk hk=>?_,λi hi=>?_,p,h.tl.app0 (h.mem.yE X) F,h.kn.app λop A=>.inl (g_of_ofEvents op A),h.norel.app (norel_of z),by rw[XJ,h.deaf0],λi hi=>?_,λi hi d=>?_,λi hi d=>(l i).out (h.out i hi d),zx h.low s.size n⟩;·rw[get_map_set _ _ _ _ (by omega)]at u;obtain⟨y,K,rfl⟩:=WV.1 u;have H:=h.qi k y hk B K;rw[woken_quitsD H,W4 t (by omega) _ g_of_ofEvents];exact H
 ·rw[W4 t (by omega) _ g_of_ofEvents];exact h.above k hk
 ·obtain⟨x,u,m⟩:=h.wk i hi;exact⟨x,by rw[get_map_set _ _ _ _ (by omega),u,Xo,m.woken],m.rely (l i)⟩
 ·rw[W4 t (by omega) _ g_of_ofEvents,h.deafW i hi]
 ·obtain⟨r,N⟩:=h.rel i hi d;exact⟨r,N.appOther g_of_ofEvents (by omega)⟩
theorem Cy.slip(X:Stat J)(h:Cy ok P J j E D U q ρ0 wh0 gs w t d0){k:Nat}(hk:0<k)(F:k<J.n0){g g':WK}{es:Array W6}{fn:Xz}{pos:String}{n:Nat}(u:∀e∈es,e.mute=Xe)(z:QuitsD P n (deafBehind (XL t k) es) g'):Cy ok P J j E D U (upd q k n) ρ0 wh0 ((gs.map (woken P g g' w)).setIfInBounds k g') w (t++WQ k fn pos es) d0:=by
 have o:∀op∈WQ k fn pos es,op.act.touch?=WI:=λop b=>by obtain⟨e,l,rfl⟩:=WR b;exact touch_mute (u e l)
 refine⟨by simp[h.size],λk2 x a m c=>?_,λk2 a=>?_,λi hi=>?_,h.mem,h.tl.appMute (g:=k) g_of_ofEvents o,h.kn.app λop b=>.inr (.inr (o op b)),h.norel.app ?_,?_,λi hi=>?_,λi hi p=>?_,h.out,zx h.low (Xq _) λe l=>low_mute (u e l) _⟩;·by_cases e:k=k2;(·subst e;(have s:k<gs.size:=by rw[h.size];omega);rw[Array.getElem?_setIfInBounds_self_of_lt (by simpa using s)]at c;obtain rfl:=W8 c;rw[upd_same,XJ];exact z);·rw[get_map_set _ _ _ _ e]at c;obtain⟨y,C,rfl⟩:=WV.1 c;have f:=h.qi k2 y a m C;rw[woken_quitsD f,upd_ne q n (Ne.symm e),W4 t e _ g_of_ofEvents];exact f
 ·rw[W4 t (by omega) _ g_of_ofEvents];exact h.above k2 a
 ·obtain⟨x,c,d⟩:=h.wk i hi;exact⟨x,by rw[get_map_set _ _ _ _ (by omega),c,Xo,d.woken],d⟩
 ·refine norel_of λe l v=>?_;have:=u e l;obtain⟨B,wr,G⟩:=e;simp only at v;subst v;simp[Event.mute]at this
 ·rw[W4 t (by omega) _ g_of_ofEvents];exact h.deaf0
 ·rw[W4 t (by omega) _ g_of_ofEvents];exact h.deafW i hi
 ·obtain⟨r,A⟩:=h.rel i hi p;exact⟨r,A.appOther g_of_ofEvents (by omega)⟩
end
end
section
open Go.Conc Go.ConcN
open Go.ConcR(KK wgBlock WgAt stA smA rd wr mk Payload DC0 Bk g_of_ofEvents bk_of_mute ofEvent_loc_mark ofEvent_cell deafBehind_cons deafBehind_one)
variable[Xf]
def qM{a:Type}(r:Nat->a->a->Prop)(j:Nat)(y x:Nat->a):Prop:=∃i,i<j/\r i (y i) (x i)/\∀k,k<j->k≠i->y k=x k
omit[Payload]in theorem KI{h:Type}(r:Nat->h->h->Prop):∀(j:Nat)(x:Nat->h),(∀i,i<j->Acc (r i) (x i))->Acc (qM r j) x:=by intro j;induction j with|zero=>intro x _;exact⟨_,λy⟨i,hi,_⟩=>absurd hi (by omega)⟩|succ j q=>intro x g;(have key:∀a,Acc (r j) a->∀x,Acc (qM r j) x->x j=a->(∀i,i<j->Acc (r i) (x i))->Acc (qM r (j+1)) x:=by intro a u;induction u with|intro a _ l=>intro x g;induction g with|intro x _ o=>intro e d;refine⟨_,λy⟨i,hi,n,hk⟩=>?_⟩;rcases Xx i j with m|v;(·exact o y ⟨i,m,n,λk t p=>hk k (by omega) p⟩ ((hk j (by omega) (by omega)).trans e) (λb f=>by by_cases s:b=i;(·subst s;exact(d b f).inv n);·rw[hk b (by omega) s];exact d b f));·(obtain rfl:i=j:=by omega);(have c:∀b,b<i->Acc (r b) (y b):=λb f=>by rw[hk b (by omega) (by omega)];exact d b f);exact l (y i) (e▸n) y (q y c) rfl c);exact key (x j) (g j (by omega)) x (q x λi hi=>g i (by omega)) rfl λi hi=>g i (by omega)
def xg(P:WX)(S:List WY->WH->Prop)(y x:List WY×WH):Prop:=¬S x.1 x.2/\∃a d es,(own P x.1).runT P (x.2.re a d) #[]=(.ok y.1 y.2,es)
omit[Payload]in theorem KA{ok:ak}{P:WX}{S:List WY->WH->Prop}{l:List WY}{wh:WH}(h:Safe ok P S l wh):Acc (xg P S) (l,wh):=by induction h with|stop h=>exact⟨_,λy⟨a,_⟩=>absurd h a⟩|step hd h hs e=>exact⟨_,λy⟨a,c,d,es,b⟩=>e c d _ _ _ b⟩
def tD(P:WX)(S:List WY->WH->Prop):Option (List WY×WH)->Option (List WY×WH)->Prop|WJ y,WJ x=>xg P S y x|_,_=>False
omit[Payload]in theorem FH{P:WX}{S:List WY->WH->Prop}:Acc (tD P S) WI:=⟨_,λy h=>by cases y<;>exact h.elim⟩
omit[Payload]in theorem JE{P:WX}{S:List WY->WH->Prop}{x:List WY×WH}(h:Acc (xg P S) x):Acc (tD P S) (WJ x):=by induction h with|intro x _ a=>refine⟨_,λy h=>?_⟩;cases y with|none=>exact FH|some y=>exact a y h
structure Sn where
 gs:Array WK
 w:WH
 t:Xt
 E:Nat->Gh
 D:Nat->WD
 U:Nat->Nat
 q:Nat->Nat
 st:Int
 sm:Int
structure bB(ok:ak)(P:WX)(J:dU)(j:Nat)(ρ0:ax)(wh0:WH)(d0:Nat)(tag:XK)(s:Sn):Prop where
 cy:Cy ok P J j s.E s.D s.U s.q ρ0 wh0 s.gs s.w s.t d0
 wg:XN J.ty J.Wg s.w s.st s.sm
 mode:Xd j s.D tag s.st s.sm
def kk(j:Nat)(s:Sn):Nat:=sumTo j λi=>3*(s.D i).stage+s.U i
def vv(s:Sn)(i:Nat):Option (List WY×WH):=if s.U i=0 then WI else WJ ((s.E i).l,(s.E i).wh)
def ff(J:dU)(j:Nat)(s:Sn):Nat:=sumTo j (λi=>(s.D i).fuel)+sumTo J.n0 s.q
def lL(P:WX)(J:dU)(j:Nat)(s' s:Sn):Prop:=kk j s'<kk j s\/(kk j s'=kk j s/\(qM (λi=>tD P (J.S i)) j (vv s') (vv s)\/((∀i,i<j->vv s' i=vv s i)/\ff J j s'<ff J j s)))
theorem bB.acc{ok:ak}{P:WX}{J:dU}{j:Nat}{ρ0:ax}{wh0:WH}{d0:Nat}{tag:XK}{s:Sn}(h:bB ok P J j ρ0 wh0 d0 tag s):Acc (qM (λi=>tD P (J.S i)) j) (vv s):=by
 refine KI _ j _ λi hi=>?_;unfold vv;split;·exact FH
 ·rename_i d;obtain⟨g,_,hs⟩:=h.cy.wk i hi;refine JE (KA (ok:=J.ok) ?_);generalize(s.D i).stage=a at hs;generalize(s.D i).fuel=b at hs;generalize(s.D i).deaf=c at hs;generalize s.U i=u at hs d;cases hs with|pre hs _=>exact hs|gh hs _ _=>exact hs|tail _=>exact absurd rfl d|n7 _ _=>exact absurd rfl d
theorem Cj{P:WX}{J:dU}{j:Nat}(I:Sn->Prop)(acc:∀s,I s->Acc (qM (λi=>tD P (J.S i)) j) (vv s))(a:Sn->Prop)(step:∀s,I s->(∀s',I s'->lL P J j s' s->a s')->a s):∀s,I s->a s:=by
 have key:∀(n:Nat)(x:Nat->Option (List WY×WH)),Acc (qM (λi=>tD P (J.S i)) j) x->(∀s,kk j s<n->I s->a s)->∀(m:Nat)s,kk j s=n->(∀i,i<j->vv s i=x i)->ff J j s=m->I s->a s:=by intro n x q w;induction q with|intro x _ l=>intro m;induction m using XD with|_ m f=>intro s hk g z d;refine step s d λs' c b=>?_;rcases b with h|⟨A,v|⟨u,y⟩⟩;(·exact w s' (by omega) c);(·obtain⟨i,hi,p,o⟩:=v;exact l (vv s') ⟨i,hi,by rw[<-g i hi];exact p,λk e b=>(o k e b).trans (g k e)⟩ (ff J j s') s' (by omega) (λ_ _=>rfl) rfl c);·exact f (ff J j s') (by omega) s' (by omega) (λi hi=>(u i hi).trans (g i hi)) rfl c
 intro s d;have all:∀n s,kk j s=n->I s->a s:=by intro n;induction n using XD with|_ n r=>intro s hk d;exact key n (vv s) (acc s d) (λs' t=>r _ t s' rfl) (ff J j s) s hk (λ_ _=>rfl) rfl d
 exact all _ s rfl d
def AH(P:WX)(J:dU):Prop:=∀(i:Nat)(E:Gh)(f:WY)(Y:List WY)(w:WH),J.S i E.l E.wh->eA J.ok P E.ρ E.l (f::Y)->j8 J.defers J.kind (f::Y)->bh J.ok E.ρ E.wh w->fi J w->yY J w->Xh J.ty J.Wg w->∃m,XC P W3 (RT J i) (DT J i) (λg w=>AtR0 P J.ty J.Wg J.C 1 0 1 J.val g w/\Out J i E w) m (G f (Y++J.base)) w
def jP(a:WK)(tag:XK):Prop:=(a.status=.running/\tag≠.blk)\/∃b:WK,a={b with status:=.blocked}/\b.status=.running/\b.offers=WI/\tag=.blk
def mz(a:WK)(tag:XK)(a':WK)(tag':XK):Prop:=(a'=a/\tag'=tag)\/(tag=.blk/\tag'=.w3/\a={a' with status:=.blocked}/\a'.status=.running/\a'.offers=WI)
section
variable{ok:ak}{P:WX}{J:dU}{j:Nat}{E:Nat->Gh}{D:Nat->WD}{U q:Nat->Nat}{ρ0:ax}{wh0 w w':WH}{gs:Array WK}{t:Xt}{d0:Nat}{tag:XK}{a:WK}{st sm:Int}
omit[Payload]in theorem FD(h:jP a tag)(g g':WK)(w':WH):∃tag',mz a tag (woken P g g' w' a) tag'/\jP (woken P g g' w' a) tag'/\(mayWake P g=Xe->g'.status=.running->tag'≠.blk):=by
 rcases h with⟨b,c⟩|⟨e,rfl,b,c,rfl⟩;·rw[woken_run b];exact⟨tag,.inl ⟨rfl,rfl⟩,.inl ⟨b,c⟩,λ_ _=>c⟩
 ·unfold woken;split;(·rw[XH b c];exact⟨.w3,.inr ⟨rfl,rfl,rfl,b,c⟩,.inl ⟨b,by simp⟩,λ_ _=>by simp⟩);·rename_i d;refine⟨.blk,.inl ⟨rfl,rfl⟩,.inr ⟨e,rfl,b,c,rfl⟩,λx y=>?_⟩;rw[x,y]at d;exact absurd rfl d
omit[Payload]in theorem mz.retag{a':WK}{tag':XK}(h:mz a tag a' tag'):tag'=tag\/(tag=.blk/\tag'=.w3):=h.imp (·.2) λx=>⟨x.1,x.2.1⟩
omit[Payload]in theorem Kq{Wg:Nat}{ad:Xp}{t:Xt}{k r d:Nat}(h:kH (ShN Wg) ad t k r)(o:XL t k=d)(fn:Xz)(pos:String){es:Array W6}(l:∀e∈es,Bk Wg e)(hd:∀j e,es[j]?=WJ e->(WN e).touch?=WI\/0<deafBehind d (es.extract 0 j)):kH (ShN Wg) ad (t++WQ k fn pos es) k r:=by
 refine⟨h.toRelBy.book o fn pos l hd,λi x hi z y=>?_⟩;obtain⟨op,m,c⟩:=touch_of y;rcases getElem?_append_cases m with⟨p,g⟩|⟨_,f⟩;·exact h.ig i x hi (by rw[<-g?_old (u:=WQ k fn pos es) p];exact z) (by rw[touchAt_of g];exact c)
 ·obtain⟨e,v,rfl⟩:=WR f;rcases l e v with n|n|⟨b,wr,rfl,s⟩;(·simp only[ofEvent_loc_mark n]at c;cases c);(·simp only[ofEvent_loc_mark n]at c;cases c);·simp only[ofEvent_cell,WU,WZ]at c;subst c;exact⟨b,rfl,s⟩
omit[Payload]in theorem pN{Wg B:Nat}(g:Wg<B){es:Array W6}(h:∀e∈es,Bk Wg e):∀e∈es,(WN e).low B:=by
 intro e d;rcases h e d with c|c|⟨b,wr,rfl,f⟩;·rw[ofEvent_loc_mark c];trivial
 ·rw[ofEvent_loc_mark c];trivial
 ·rw[ofEvent_cell];simp only[XM,Xs];omega
omit[Payload]in theorem SV{Wg:Nat}{Own Rd:Nat->Loc->Prop}{k:Nat}{fn:Xz}{pos:String}{es:Array W6}(h:∀e∈es,Bk Wg e):∀op∈WQ k fn pos es,wJ (ShN Wg) Own Rd k op:=by
 intro op d;obtain⟨e,g,rfl⟩:=WR d;refine⟨rfl,λx c=>?_⟩;rcases h e g with f|f|⟨b,wr,rfl,i⟩;·simp only[ofEvent_loc_mark f]at c;cases c
 ·simp only[ofEvent_loc_mark f]at c;cases c
 ·simp only[ofEvent_cell,WU,WZ]at c;subst c;exact .inl ⟨⟨b,rfl,i⟩,by simp,by simp⟩
theorem pG.aside{i:Nat}(d:Mem ok J j E ρ0 wh0 w)(hi:i<j)(e:∀b,b≠J.Wg->w'.heap[b]?=w.heap[b]?)(hs:w'.heap.size=w.heap.size)(g:w'.os=w.os/\w'.output=w.output:=by exact⟨rfl,rfl⟩):pG J i (E i) (E i) w w':=⟨rfl,qG (d.rel i hi) (by omega) (λb c k=>e c (d.gU i hi b c k).1) g,ax.le.refl _,λb c h=>.inl h,d.nD i hi,by omega,λc _ _ f _=>e c f⟩
theorem RT.aside(X:Stat J){i:Nat}(c:∀b,b≠J.Wg->w'.heap[b]?=w.heap[b]?)(d:Xh J.ty J.Wg w'):RT J i w w':=⟨λ_=>d,c J.C X.cw,λ⟨cs,a,b⟩=>⟨cs,(c J.R X.rw).trans a,b⟩,λo _ _=>cell_of_block (c J.R X.rw) o⟩
end
end
end Go.Rel
namespace Go.Proofs.YtldeiiffabfmeaaGreatDoor
section
open Go.Conc Go.ConcN Go.RowKit Go.Conc.Lib Go.ConcR.Gen Go.ConcN.Gen Go.Rel
open Go.ConcR(KK wgBlock WgAt stA smA rd wr mk Payload DC0 ofEvent_cell)
def ld:WY:=baseD 131
noncomputable def bot:WY:={(default:WY)with fn:=Tryz.prog.funcs.size,defers:=[],mode:=.panicking [goexitEntry]}
noncomputable def yf:W7:=Tryz.f131.body.getD .skip
noncomputable def vF:W7:=match yf with|.seq _ b=>b|_=>.skip
noncomputable def fK:Array Oper:=match vF with|.region _ o _=>o|_=>#[]
theorem Wv:vF=.region 1 fK Xe:=rfl
def call131(d c a b e:WO):Xm:={target:=.fn (.func 131) #[d,c,a,b,e],args:=#[]}
def mj(d c a b e:WO):Array WO:=#[d,c,a,b,e,WG,WG,WG,WG,WG,WG,WG,WG,WG,WG,WG,WG,WG,WG,WG,WG,WG,WG,WG,WG,WG,WG,WG,WG,WG,WG]
def qY(Wg:Nat):Xm:=dcall 132 #[.pointer (WJ ⟨Wg,0,WI⟩)]
theorem Mx(c a e b d:WO)(w:WH):stepG WL W3 (born WL (call131 c a e b d)) w=.go (G (ld.at ⟨mj c a e b d,[]⟩ [.code yf]) [bot]) w #[]:=by simp[born,call131,stepG,unwind,callDeferred,invoke,callFunc,XI,XF,seen,GStep.after,G,Frame.enter,Frame.at,ld,baseD,bot,yf,mj]
theorem xr{R:WH->WH->Prop}{w a:WH}(h:True)(_:R w a):True:=h
theorem Uq{R:WH->WH->Prop}(Wg:Nat)(h e c d:WO)(w:WH):XC WL W3 R DC0 (λg _=>g=G (ld.at ⟨mj (.pointer (WJ ⟨Wg,0,WI⟩)) h e c d,[qY Wg]⟩ [.code vF]) [bot]) 8 (born WL (call131 (.pointer (WJ ⟨Wg,0,WI⟩)) h e c d)) w:=by have hF:True:=trivial;refine Goes.step rfl λi a=>?_;rw[Mx];refine⟨by u_nil,?_⟩;clear a;simp only[yf,XF,WT,mj];u_c stepG_seq xr hF;u_reg xr hF;u_defer xr hF;u_c stepG_region_end xr hF;exact Goes.stop λf b=>rfl
theorem P0(T:Array WO)(td:List Item):QuitsD WL 2 0 (G {ld.at ⟨T,[]⟩ td with mode:=.returning} [bot]):=by
 refine QuitsD.ctl (g':=G bot []) rfl (λw=>?_) ?_;·simp[G,stepG,unwind,doReturn,results,Frame.at,ld,baseD,bot,XI,XF,seen,GStep.after,goexitEntry]
 refine QuitsD.ctl (g':={G bot []with status:=.finished}) rfl (λw=>?_) ⟨rfl,rfl⟩;simp[G,stepG,unwind,bot,goexitEntry,Frame.catches];rfl
end
end Go.Proofs.YtldeiiffabfmeaaGreatDoor
namespace Go.Rel
section
open Go.Conc Go.ConcN
theorem GN{P:WX}(g o:Nat)(t:XA):∀(vs:List WO)(i:Nat)(a:Array WO)(w:WH)(es:Array W6),w.heap[g]?=WJ (.cells a t)->o+i+vs.length<=a.size->(∀v∈vs,v.oneCell'=Xe)->∃w' c es',(storeCells ⟨g,o,WI⟩ vs i).runT P w es=(.ok () w',es++es')/\(w'.heap.size=w.heap.size/\w'.os=w.os/\w'.output=w.output)/\(∀b,b≠g->w'.heap[b]?=w.heap[b]?)/\w'.heap[g]?=WJ (.cells c t)/\c.size=a.size/\(∀k,k<vs.length->c[o+i+k]?=vs[k]?)/\(∀k,(k<o+i\/o+i+vs.length<=k)->c[k]?=a[k]?)/\∀e∈es',∃k,i<=k/\k<i+vs.length/\e=⟨.cell ⟨g,o+k,WI⟩,Xe,W3⟩|[],i,a,w,es,h,q,s=>⟨w,a,#[],by simp[storeCells],⟨rfl,rfl,rfl⟩,λ_ _=>rfl,h,rfl,λk hk=>absurd hk (by simp),λ_ _=>rfl,by simp⟩|v::rest,i,a,w,es,h,q,s=>by(have hi:o+i<a.size:=by simp at q;omega);(have m:(⟨g,o,WI⟩:Xp).add i=⟨g,o+i,WI⟩:=by unfold Addr.add;split<;>simp_all);(have f:w.cell? ⟨g,o+i,WI⟩=WJ a[o+i]:=by simp[Xr,h,hi]);(have l:w.frozen? ⟨g,o+i,WI⟩=W3:=by simp[World.frozen?,h]);have u:=s v (by simp);have d:(w.setCell ⟨g,o+i,WI⟩ v)=w.setRow g (a.setIfInBounds (o+i) v):=setCell_eq_setRow w g (o+i) a t (0,0) v h;(have p:(store ((⟨g,o,WI⟩:Xp).add i) v).runT P w es=(.ok () (w.setRow g (a.setIfInBounds (o+i) v)),es.push ⟨.cell ⟨g,o+i,WI⟩,Xe,W3⟩):=by rw[m,<-d];unfold store;cases v with|agg _=>simp[Xi]at u|tuple _=>simp[Xi]at u|_=>simp only[Sem.runT,f,l];rfl);have n:(w.setRow g (a.setIfInBounds (o+i) v)).heap[g]?=WJ (.cells (a.setIfInBounds (o+i) v) t):=setRow_heap w g a _ t _ h;have r:=aside_setCell w ⟨g,o+i,WI⟩ v;rw[d]at r;obtain⟨w',c,es',k1,k2,k3,k4,k5,k6,z,B⟩:=GN g o t rest (i+1) (a.setIfInBounds (o+i) v) (w.setRow g (a.setIfInBounds (o+i) v)) (es.push ⟨.cell ⟨g,o+i,WI⟩,Xe,W3⟩) n (by simp at q⊢;omega) (λx C=>s x (by simp[C]));refine⟨w',c,#[⟨.cell ⟨g,o+i,WI⟩,Xe,W3⟩]++es',?_,⟨k2.1.trans r.size,k2.2.1,k2.2.2⟩,λb y=>(k3 b y).trans (r.block b y),k4,by simpa using k5,λk hk=>?_,λk hk=>?_,λe j=>?_⟩;(·show(store ((⟨g,o,WI⟩:Xp).add i) v>>=λ_=>storeCells ⟨g,o,WI⟩ rest (i+1)).runT P w es=_;rw[fx,p];simp only;rw[k1];simp);(·cases k with|zero=>rw[z (o+i+0) (.inl (by omega))];simp[hi]|succ k=>have:=k6 k (by simp at hk;omega);rw[show o+i+(k+1)=o+(i+1)+k by omega];simpa using this);(·rw[z k (by simp at hk⊢;omega)];rw[Xb (by simp at hk;omega)]);·rcases XB.1 j with j|j;(·simp at j;exact⟨i,Xq _,by simp,j⟩);·obtain⟨k,q1,q2,A⟩:=B e j;exact⟨k,by omega,by simp;omega,A⟩
end
end Go.Rel
namespace Go.Proofs.YtldeiiffabfmeaaGreatDoor
section
open Go.Conc Go.ConcN Go.RowKit Go.Conc.Lib Go.ConcR.Gen Go.ConcN.Gen Go.Rel
open Go.ConcR(KK wgBlock WgAt stA smA rd wr mk Payload DC0 ofEvent_cell)
def qS:WY:=base 131
def C5(okW:ak)(n:Nat)(RS:Nat->Array WO->WH->Prop)(i:Nat)(l:List WY)(wh:WH):Prop:=∃(T:Array WO)(x:Array WO),l=[qS.at ⟨T,[]⟩ [.inRegion fK [25,26]]]/\T.size=31/\T[5]?=WJ (.iface okW.bM (.int .i64 (1:Nat)))/\T[6]?=WJ (.int .i64 i)/\T[29]?=WJ (.agg x)/\x.size=6/\(∀v∈x,v.oneCell'=Xe)/\i<n/\RS i x wh
def Lq(okW:ak)(n:Nat)(RS:Nat->Array WO->WH->Prop)(i:Nat)(E:Gh)(row:Nat->Option WO):Prop:=∃(x x':Array WO),x.size=6/\RS i x E.wh/\aG okW E.ρ x x'/\i<n/\∀k,k<6->row (6*i+k)=x'[k]?
noncomputable def lV(Wg C R n n0 N0 N1:Nat)(w1:WH)(Still:Nat->Prop)(Old:Loc->Prop)(okW:ak)(RS:Nat->Array WO->WH->Prop):dU where
 ty:=224;Wg:=Wg;C:=C;R:=R;Fa:=202;FL:=6*n;val:=.slice (WJ ⟨R,0,WI⟩) n n;n0:=n0;N0:=N0;N1:=N1;w1:=w1;Still:=Still;Old:=Old;ok:=okW;base:=[bot];defers:=[qY Wg];kind:=.deferred;S:=C5 okW n RS;lo:=λi=>6*i;hi:=λi=>6*i+6;nH:=Lq okW n RS
noncomputable def sG:Oper:=fK[25]?.getD default
noncomputable def qg:Oper:=fK[26]?.getD default
theorem xF:fK[25]?=WJ sG/\sG.op=.indexAddr 198 (.tmp 5) (.tmp 6)/\sG.dst=WJ 30/\sG.guard=WI:=⟨rfl,rfl,rfl,rfl⟩
theorem xM:fK[26]?=WJ qg/\qg.op=.store 202 (.tmp 30) (.tmp 29)/\qg.dst=WI/\qg.guard=WI:=⟨rfl,rfl,rfl,rfl⟩
theorem Sf:(Tryz.prog.funcs[131]?).any (·.norace)=W3:=by kernel_rfl
section
variable{T:Array WO}{D:List Xm}{i n R:Nat}{k:List Item}{cs:List WY}{w:WH}
theorem PO(c:T[5]?=WJ (.slice (WJ ⟨R,0,WI⟩) n n))(f:T[6]?=WJ (.int .i64 i))(hi:i<n):stepG WL W3 (G (ld.at ⟨T,D⟩ (.inRegion fK [25,26]::k)) cs) w=.go (G (ld.at ⟨T.setIfInBounds 30 (.pointer (WJ ⟨R,6*i,WI⟩)),D⟩ (.inRegion fK [26]::k)) cs) w #[]:=by
 have e5:(⟨T,D⟩:Act).eval (.tmp 5)=.slice (WJ ⟨R,0,WI⟩) n n:=by simp[Act.eval,W0,c]
 have e6:(⟨T,D⟩:Act).eval (.tmp 6)=.int .i64 i:=by simp[Act.eval,W0,f]
 have b:(i:Int)<(n:Int):=by omega
 have a:(0:Int)<=(i:Int):=by omega
 have d:(execOp (⟨T,D⟩:Act).eval sG).run WL w=.ok (.value (.pointer (WJ ⟨R,6*i,WI⟩))) w:=by unfold execOp;simp only[xF.2.1,e5,e6];simp[go_sem,b,a]<;>omega
 have e:(execOp (⟨T,D⟩:Act).eval sG).events WL w #[]=#[]:=by unfold execOp;simp only[xF.2.1,e5,e6];simp[go_sem,b,a]
 rw[stepG_value xF.1 (by simp[Region.wanted,xF.2.2.2]) (by decide) d];unfold listed;rw[e,seen_none];rfl
theorem SO{x:Array WO}{c:Array WO}(g:T[30]?=WJ (.pointer (WJ ⟨R,6*i,WI⟩)))(m:T[29]?=WJ (.agg x))(d:x.size=6)(u:∀v∈x,v.oneCell'=Xe)(A:w.heap[R]?=WJ (.cells c 202))(C:c.size=6*n)(hi:i<n):∃w' a es,stepG WL W3 (G (ld.at ⟨T,D⟩ (.inRegion fK [26]::k)) cs) w=.go (G (ld.at ⟨T,D⟩ (.inRegion fK []::k)) cs) w' es/\(w'.heap.size=w.heap.size/\w'.os=w.os/\w'.output=w.output)/\(∀b,b≠R->w'.heap[b]?=w.heap[b]?)/\w'.heap[R]?=WJ (.cells a 202)/\a.size=c.size/\(∀k,k<6->a[6*i+k]?=x[k]?)/\(∀k,(k<6*i\/6*i+6<=k)->a[k]?=c[k]?)/\∀e∈es,∃k,k<6/\e=⟨.cell ⟨R,6*i+k,WI⟩,Xe,W3⟩:=by
 have o:(⟨T,D⟩:Act).eval (.tmp 30)=.pointer (WJ ⟨R,6*i,WI⟩):=by simp[Act.eval,W0,g]
 have l:(⟨T,D⟩:Act).eval (.tmp 29)=.agg x:=by simp[Act.eval,W0,m]
 obtain⟨w',a,es,k1,k2,k3,k4,k5,k6,z,p⟩:=GN (P:=WL) R (6*i) 202 x.toList 0 c w #[] A (by simp[d];omega) (λv r=>u v (by simpa using r));have q:(execOp (⟨T,D⟩:Act).eval qg).runT WL w #[]=(.ok .skip w',es):=by unfold execOp;simp only[xM.2.1,o,l];(have hs:(Instr.storeAt 202 (.pointer (WJ ⟨R,6*i,WI⟩)) (.agg x)).runT WL w #[]=(.ok () w',es):=by(have s:(sizeOf 202).events WL w #[]=#[]:=by simp[go_sem]);(have j:(sizeOf 202).runT WL w #[]=(.ok 6 w,#[]):=by rw[Sem.runT_eq,Tryz.sizeOf202,s]);show(storeVar 202 ⟨R,6*i,WI⟩ (.agg x)).runT WL w #[]=_;unfold storeVar;rw[fx,j];simp only[Value.cells,d,ne_eq,not_true_eq_false,if_false];rw[show(Sem.runT WL (do pure PUnit.unit;storeCells ⟨R,6*i,WI⟩ x.toList) w #[])=_ from k1];simp);rw[fx,hs];rfl
 have t:(execOp (⟨T,D⟩:Act).eval qg).run WL w=.ok .skip w':=by have:=congrArg Prod.fst q;rw[Sem.runT_fst]at this;exact this
 have y:(execOp (⟨T,D⟩:Act).eval qg).events WL w #[]=es:=congrArg Prod.snd q;refine⟨w',a,es,?_,k2,k3,k4,k5,λk hk=>by simpa using k6 k (by simpa[d]using hk),λk hk=>z k (by simpa[d]using hk),λe h=>?_⟩;·rw[stepG_none xM.1 (by simp[Region.wanted,xM.2.2.2]) (by decide) t];unfold listed;have B:seen WL ld.fn es=es:=seen_eq Sf (λe h f=>by obtain⟨k,_,_,rfl⟩:=p e h;simp);rw[y,B,xM.2.2.1];rfl
 ·obtain⟨k,_,q2,rfl⟩:=p e h;exact⟨k,by simpa[d]using q2,rfl⟩
end
end
section
open Go.Conc Go.ConcN Go.RowKit Go.Conc.Lib Go.ConcR.Gen Go.ConcN.Gen Go.Rel
open Go.ConcR(KK wgBlock WgAt stA smA rd wr mk Payload DC0 ofEvent_cell)
variable{Wg C R n n0 N0 N1:Nat}{w1:WH}{Still:Nat->Prop}{Old:Loc->Prop}{okW:ak}{RS:Nat->Array WO->WH->Prop}
theorem yp{ok:ak}{ρ:ax}{k:Nat}{b:WO}(h:ar ok ρ (.iface ok.bM (.int .i64 k)) b):b=ok.tags k:=by generalize a:(Value.iface ok.bM (.int .i64 k))=v at h;cases h with|iface t h c=>cases a;exact absurd rfl c|tag m d e h=>simp only[Value.iface.injEq,Value.int.injEq,true_and]at a;obtain⟨_,hk⟩:=a;(obtain rfl:k=m:=by omega);exact e.symm|_=>cases a
theorem JM{ok:ak}{ρ:ax}{k:IntKind}{m:Int}{a:WO}(h:ar ok ρ (.int k m) a):a=.int k m:=by cases h;rfl
theorem MS{ok:ak}{ρ:ax}{x:Array WO}{a:WO}(h:ar ok ρ (.agg x) a):∃x',a=.agg x'/\aG ok ρ x x':=by obtain⟨x⟩:=x;cases h with|agg b=>exact⟨_,rfl,b⟩
theorem PK{ok:ak}{ρ:ax}{v a:WO}(h:ar ok ρ v a)(b:v.oneCell'=Xe):a.oneCell'=Xe:=by cases h with|agg=>simp[Xi]at b|tuple=>simp[Xi]at b|bD h=>(cases‹WO›<;>first|exact h.elim|rfl)|tag _ _ _ h=>(cases‹WO›<;>first|exact h.elim|rfl)|_=>rfl
theorem DY{P:WX}{f:Bool}{R R':WH->WH->Prop}{D l:WH->WH->Array W6->Prop}{S S':WK->WH->Prop}(i:∀a b,R' a b->R a b)(k:∀a b es,D a b es->l a b es)(j:∀g w c,S g c->R' w c->S' g c):∀m g w,XC P f R D S m g w->XC P f R' l S' m g w|0,g,w,h=>λc e=>j g w c (h c (i _ _ e)) e|m+1,g,w,h=>by rcases h with h|⟨hs,h⟩;(·exact .inl λc e=>j g w c (h c (i _ _ e)) e);·refine .inr ⟨hs,λc e=>?_⟩;have:=h c (i _ _ e);revert this;cases stepG P f g c<;>simp only[GStep.goes,imp_self];exactλ⟨d,x⟩=>⟨k _ _ _ d,DY i k j m _ _ x⟩
theorem Bs{P:WX}{e:Bool}{R R':WH->WH->Prop}{k:WH->WH->Array W6->Prop}{S S':WK->WH->Prop}{I:WH->Prop}(f:∀a b,R' a b->R a b)(i:∀a b,R' a b->I a->I b)(l:∀a,k a a #[])(j:∀g w,S g w->I w->S' g w):∀m g w,I w->XC P e R DC0 S m g w->XC P e R' k S' m g w|0,g,w,hi,h=>λc d=>j g c (h c (f _ _ d)) (i _ _ d hi)|m+1,g,w,hi,h=>by rcases h with h|⟨hs,h⟩;(·exact .inl λc d=>j g c (h c (f _ _ d)) (i _ _ d hi));·refine .inr ⟨hs,λc d=>?_⟩;have:=h c (f _ _ d);revert this;cases stepG P e g c<;>simp only[GStep.goes,imp_self];exactλ⟨⟨e1,e2⟩,x⟩=>by subst e1 e2;exact⟨l _,Bs f i l j m _ _ (i _ _ d hi) x⟩
theorem Mb(S:okW.tags 1=.slice (WJ ⟨R,0,WI⟩) n n)(ao:R≠C)(af:R≠Wg):Go.Rel.AH WL (lV Wg C R n n0 N0 N1 w1 Still Old okW RS):=by intro i E f Y w hS hL ac hW aa O K;obtain⟨T,x,hl,an,h5,h6,M,hx,W,hi,aq⟩:=hS;rw[hl]at hL;cases hL with|one N=>obtain⟨hd,hk⟩:f.defers=[qY Wg]/\f.kind=.deferred:=ac;have hT:=N.tmps;(have g5:f.tmps[5]?=WJ (.slice (WJ ⟨R,0,WI⟩) n n):=by rcases hT.get? 5 with⟨e,_⟩|⟨v,v',e1,e2,e3⟩;(·have:T[5]?=WI:=e;rw[this]at h5;cases h5);·have d:T[5]?=WJ v:=e1;rw[h5]at d;cases d;have e4:=yp e3;rw[e2,e4];exact congrArg WJ S);(have g6:f.tmps[6]?=WJ (.int .i64 i):=by rcases hT.get? 6 with⟨e,_⟩|⟨v,v',e1,e2,e3⟩;(·have:T[6]?=WI:=e;rw[this]at h6;cases h6);·have d:T[6]?=WJ v:=e1;rw[h6]at d;cases d;rw[e2,JM e3]);(obtain⟨x',ad,F⟩:∃x',f.tmps[29]?=WJ (.agg x')/\aG okW E.ρ x x':=by rcases hT.get? 29 with⟨e,_⟩|⟨v,v',e1,e2,e3⟩;(·have:T[29]?=WI:=e;rw[this]at M;cases M);·have d:T[29]?=WJ v:=e1;rw[M]at d;cases d;obtain⟨x',rfl,L⟩:=MS e3;exact⟨x',e2,L⟩);(have L:x'.size=6:=by rw[<-F.size];exact hx);(have J:∀v∈x',v.oneCell'=Xe:=by intro v hv;obtain⟨k,hk,rfl⟩:=Array.mem_iff_getElem.1 hv;rcases F.get? k with⟨_,e⟩|⟨u,u',e1,e2,e3⟩;(·rw[Xl hk]at e;cases e);·rw[Xl hk]at e2;cases e2;exact PK e3 (W u (W5 e1)));(have ap:f.tmps.size=31:=by have:=hT.size;rw[<-this];exact an);(have ah:f=ld.at ⟨f.tmps,[qY Wg]⟩ [.inRegion fK [25,26]]:=by have a1:=N.fn;have a2:=N.todo;have a3:=N.mode;have a4:=N.lq;obtain⟨fn,tmps,todo,defers,mode,kind,round⟩:=f;simp only[qS,base,Frame.at]at a1 a2 a3 a4 hd hk;subst a1 a2 a3 a4 hd hk;rfl);rw[ah];obtain⟨U,al,Q⟩:=aa;(suffices key:∃m,∀l,fi (lV Wg C R n n0 N0 N1 w1 Still Old okW RS) l->yY (lV Wg C R n n0 N0 N1 w1 Still Old okW RS) l->Xh 224 Wg l->XC WL W3 (RT (lV Wg C R n n0 N0 N1 w1 Still Old okW RS) i) (DT (lV Wg C R n n0 N0 N1 w1 Still Old okW RS) i) (λg w=>AtR0 WL 224 Wg C 1 0 1 (.slice (WJ ⟨R,0,WI⟩) n n) g w/\Out (lV Wg C R n n0 N0 N1 w1 Still Old okW RS) i E w) m (G (ld.at ⟨f.tmps.setIfInBounds 30 (.pointer (WJ ⟨R,6*i,WI⟩)),[qY Wg]⟩ [.inRegion fK [26]]) [bot]) l by obtain⟨m,hm⟩:=key;refine⟨m+1,.inr ⟨rfl,λy s=>?_⟩⟩;show(stepG WL W3 (G (ld.at ⟨f.tmps,[qY Wg]⟩ (.inRegion fK [25,26]::[])) ([]++[bot])) y).goes _;rw[show([]++[bot]:List WY)=[bot]from rfl,PO g5 g6 hi];refine⟨⟨rfl,λ_ _=>rfl,id,λ_ _=>rfl,by simp,rfl,rfl⟩,hm y (s.row ⟨U,al,Q⟩) (s.var.trans O) (s.live K)⟩);(have ai:(f.tmps.setIfInBounds 30 (.pointer (WJ ⟨R,6*i,WI⟩)))[30]?=WJ (.pointer (WJ ⟨R,6*i,WI⟩)):=by simp[ap]);(have Z:(f.tmps.setIfInBounds 30 (.pointer (WJ ⟨R,6*i,WI⟩)))[29]?=WJ (.agg x'):=by rw[Xb (by decide)];exact ad);refine⟨100,λl t r p=>.inr ⟨rfl,λz q=>?_⟩⟩;obtain⟨ak,H,X⟩:=q.row t;have B:z.heap[R]?=WJ (.cells ak 202):=H;obtain⟨w',P,es,q1,⟨q2,ae,aj⟩,q3,q4,q5,q6,q7,q8⟩:=SO (D:=[qY Wg]) (k:=[]) (cs:=[bot]) ai Z L J B X hi;rw[q1];(have A:Out (lV Wg C R n n0 N0 N1 w1 Still Old okW RS) i E w':=by refine⟨x,x',hx,aq,F,hi,λk hk=>?_⟩;(have:(6*i<=6*i+k/\6*i+k<6*i+6):=by omega);show(if 6*i<=6*i+k/\6*i+k<6*i+6 then w'.cell? ⟨R,6*i+k,WI⟩else WI)=_;rw[if_pos this,<-q6 k hk];simp[Xr,q4]);have j:w'.heap[C]?=WJ (.cells #[.slice (WJ ⟨R,0,WI⟩) n n] Payload.ety):=(q3 C (Ne.symm ao)).trans (q.var.trans r);(have c:Xh 224 Wg w':=by obtain⟨st,sm,hl⟩:=q.live p;exact⟨st,sm,hl.of_block (q3 Wg (Ne.symm af))⟩);refine⟨⟨q2,q3,λ_=>⟨P,q4,q5.trans X⟩,λo V=>?_,λe he=>?_,ae,aj⟩,?_⟩;(·(have am:o<6*i\/6*i+6<=o:=by have:¬(6*i<=o/\o<6*i+6):=V;omega);show w'.cell? ⟨R,o,WI⟩=z.cell? ⟨R,o,WI⟩;simp[Xr,q4,B,q7 o am]);(·obtain⟨k,hk,rfl⟩:=q8 e he;exact⟨6*i+k,Xe,rfl,by show 6*i<=_;omega,by show _<6*i+6;omega⟩);·have hK:Xh kN.tWg Wg w'/\Has C (1-1) (.slice (WJ ⟨R,0,WI⟩) n n) w':=⟨c,by simp[Has,Xr,j]⟩;refine Bs (R:=RW 224 Wg C 1 0 (1-1)) (I:=λw=>Out (lV Wg C R n n0 N0 N1 w1 Still Old okW RS) i E w) (λa b h=>h.rw) (λa b h V=>h.out V) (λa=>⟨rfl,λ_ _=>rfl,id,λ_ _=>rfl,by simp,rfl,rfl⟩) (λg w h V=>⟨h,V⟩) 99 _ w' A ?_;clear A q1 q2 q3 q4 q5 q6 q7 q8 j c;u_c stepG_region_end kn_rely hK;u_c stepG_end kn_rely hK;u_in kn_rely hK;rw[stepG_unwind_enter rfl Tryz.func132 (nm_done kN) rfl];simp only[goes_go];refine⟨by u_nil,?_⟩;walk_nrmf Tryz.f132;have hA:=@Vw _ kN WL Wg C 1 0 1 (.slice (WJ ⟨R,0,WI⟩) n n) yc;simp only[body_done,doneFn,WT]at hA;refine yS (n:=60) ?_ (by omega);exact hA rfl (P0 _ _) _ hK|cons N hp hs=>cases hs
end
section
open Go.RowKit
noncomputable def kz:W7:=Tryz.f109.body.getD .skip
def an:W7->W7|.seq a _=>a|c=>c
def ai:W7->W7|.seq _ b=>b|c=>c
def tC:W7->W7|.block _ c|.loop c=>c|c=>c
noncomputable def r0:W7:=an kz
noncomputable def r1:W7:=an (ai kz)
noncomputable def r2:W7:=an (ai (ai kz))
noncomputable def t3:W7:=ai (ai (ai kz))
noncomputable def r3:W7:=an (an t3)
noncomputable def vR:W7:=ai (an t3)
noncomputable def lp:W7:=tC vR
noncomputable def lb:W7:=tC lp
noncomputable def r4:W7:=an lb
noncomputable def C7:W7:=an (ai (ai lb))
noncomputable def vU:W7:=tC C7
noncomputable def r5:W7:=an vU
noncomputable def r6:W7:=an (ai vU)
noncomputable def r7:W7:=ai (ai vU)
noncomputable def r8:W7:=ai (ai (ai lb))
noncomputable def t9:W7:=ai t3
noncomputable def r9:W7:=an t9
noncomputable def lP:W7:=an (ai t9)
theorem T9:kz=.seq r0 (.seq r1 (.seq r2 (.seq (.seq r3 (.block 0 (.loop lb))) (.seq r9 (.seq lP .ret))))):=rfl
theorem GK:lb=.seq r4 (.seq (.cond (.tmp 15) .skip (.exit 0)) (.seq (.block 1 (.seq r5 (.seq r6 r7))) r8)):=rfl
def s0(p rd:WO):Array WO:=#[p,rd,WG,WG,WG,WG,WG,WG,WG,WG,WG,WG,WG,WG,WG,WG,WG,WG,WG,WG,WG,WG,WG,WG]
def s1(p rd:WO)(N:Nat):Array WO:=#[p,rd,.pointer (WJ ⟨N,0,WI⟩),WG,.slice WI 0 0,WG,WG,WG,WG,WG,WG,WG,WG,WG,WG,WG,WG,WG,WG,WG,WG,WG,WG,WG]
theorem H5(pa:Xp)(rd:WO)(w:WH):r0.wp WL (λe a w'=>e=.normal/\a=⟨s1 (.pointer (WJ pa)) rd w.heap.size,[]⟩/\w'=w.alloc (.cells #[.pointer (WJ pa)] 167)) ⟨s0 (.pointer (WJ pa)) rd,[]⟩ w:=by simp only[r0,kz,Xg,WT,an,s0,s1];go_wp2
def s2(p rd:WO)(n N:Nat):Array WO:=#[p,rd,.pointer (WJ ⟨N,0,WI⟩),WG,.slice WI 0 0,.pointer (WJ ⟨N+2,0,WI⟩),WG,WG,WG,rd,.int .i64 n,.slice (WJ ⟨N+1,0,WI⟩) n n,WG,WG,WG,WG,WG,WG,WG,WG,WG,WG,WG,WG]
theorem RQ:(Tryz.prog.info? 202).map (λi=>(i.zero,i.size,i.bytes))=WJ (WJ (.agg #[.bool W3,.int .i64 0,.int .i64 0,.int .i64 0,.int .i64 0,.slice WI 0 0]),6,64):=by kernel_rfl
theorem L5(n:Nat)(d:n<2147483647):∃M:Array WO,M.size=6*n/\∀w:WH,(Instr.makeSlice 198 (.int .i64 (n:Int)) (.int .i64 (n:Int))).run WL w=.ok (.slice (WJ ⟨w.heap.size,0,WI⟩) n n) (w.alloc (.cells M 202)):=by
 obtain⟨M,b,c⟩:=xj (P:=WL) 198 202 _ 6 64 Tryz.underlying198 RQ n (by omega) (by unfold maxLen;omega) (λj=>(#[.bool W3,.int .i64 0,.int .i64 0,.int .i64 0,.int .i64 0,.slice WI 0 0]:Array WO)[j%6]!) (λj _=>rfl);obtain⟨a,e1,e2,_⟩:=c default;have e:((default:WH).alloc (.cells M 202)).heap[(default:WH).heap.size]?=WJ (.cells M 202):=by show((default:WH).heap.push _)[_]?=_;exact Array.getElem?_push_size
 rw[e]at e1;cases e1;exact⟨M,by omega,b⟩
theorem Vp(pa:Xp)(ra:Option Xp)(n c N:Nat)(M:Array WO)(d:∀w:WH,(Instr.makeSlice 198 (.int .i64 (n:Int)) (.int .i64 (n:Int))).run WL w=.ok (.slice (WJ ⟨w.heap.size,0,WI⟩) n n) (w.alloc (.cells M 202)))(w:WH)(b:w.heap.size=N+1):r1.wp WL (λe a w'=>e=.normal/\a=⟨s2 (.pointer (WJ pa)) (.slice ra n c) n N,[]⟩/\w'=(w.alloc (.cells M 202)).alloc (.cells #[.slice (WJ ⟨N+1,0,WI⟩) n n] 198)) ⟨s1 (.pointer (WJ pa)) (.slice ra n c) N,[]⟩ w:=by simp only[r1,kz,Xg,WT,an,ai,s1,s2];go_wp2
def sT(p rd pb a b:WO)(n i:Nat)(f:Nat->WO):Array WO:=#[p,rd,pb,f 3,f 4,a,b,f 7,f 8,f 9,f 10,f 11,rd,.int .i64 n,.int .i64 i,f 15,f 16,f 17,f 18,f 19,f 20,f 21,f 22,f 23]
def dz(f:Nat->WO)(k:Nat)(v:WO):Nat->WO:=λj=>if j=k then v else f j
section
variable(p rd pb cv gv:WO)(n i:Nat)(f:Nat->WO)(w:WH)
theorem Ez:r4.wp WL (λe a w'=>e=.normal/\a=⟨sT p rd pb cv gv n i (dz f 15 (.bool (decide (i<n)))),[]⟩/\w'=w) ⟨sT p rd pb cv gv n i f,[]⟩ w:=by
 have h:decide ((i:Int)<(n:Int))=decide (i<n):=by simp
 simp only[r4,lb,lp,vR,t3,kz,Xg,WT,an,ai,tC,sT,dz];go_wp2
theorem KC(hi:i<2147483647):r8.wp WL (λe a w'=>e=.normal/\a=⟨sT p rd pb cv gv n (i+1) (dz f 21 (.int .i64 ((i:Int)+1))),[]⟩/\w'=w) ⟨sT p rd pb cv gv n i f,[]⟩ w:=by
 simp only[r8,lb,lp,vR,t3,kz,Xg,WT,an,ai,tC,sT,dz];have b:wrap64 ((i:Int)+1)=(i:Int)+1:=by unfold wrap64;omega
 go_wp2
end
section
variable(p pb cv gv:WO)(rb ro n c i:Nat)(f:Nat->WO)(w:WH)(ah:Int)(rdd:Bool)(kept:WO)(b0 b1 b2 b3:Bool)
theorem QK(hi:i<n)(ka:Option Xp)(kn kc:Nat)(c0:w.cell? ⟨rb,ro+i*7,WI⟩=WJ (.int .i64 ah))(c1:w.cell? ⟨rb,ro+i*7+1,WI⟩=WJ (.bool rdd))(c2:w.cell? ⟨rb,ro+i*7+2,WI⟩=WJ (.slice ka kn kc))(c3:w.cell? ⟨rb,ro+i*7+3,WI⟩=WJ (.bool b0))(c4:w.cell? ⟨rb,ro+i*7+4,WI⟩=WJ (.bool b1))(c5:w.cell? ⟨rb,ro+i*7+5,WI⟩=WJ (.bool b2))(c6:w.cell? ⟨rb,ro+i*7+6,WI⟩=WJ (.bool b3)):r5.wp WL (λe a w'=>e=.normal/\a=⟨sT p (.slice (WJ ⟨rb,ro,WI⟩) n c) pb cv gv n i (dz (dz (dz (dz (dz f 16 (.int .i64 i)) 17 (.pointer (WJ ⟨rb,ro+i*7,WI⟩))) 18 (.agg #[.int .i64 ah,.bool rdd,.slice ka kn kc,.bool b0,.bool b1,.bool b2,.bool b3])) 7 (.pointer (WJ ⟨w.heap.size,0,WI⟩))) 8 (.pointer (WJ ⟨w.heap.size+1,0,WI⟩))),[]⟩/\w'=(w.alloc (.cells #[.int .i64 i] 3)).alloc (.cells #[.int .i64 ah,.bool rdd,.slice ka kn kc,.bool b0,.bool b1,.bool b2,.bool b3] 173)) ⟨sT p (.slice (WJ ⟨rb,ro,WI⟩) n c) pb cv gv n i f,[]⟩ w:=by
 have d:(i:Int)<(n:Int):=by omega
 have b:(0:Int)<=(i:Int):=by omega
 simp only[r5,vU,C7,lb,lp,vR,t3,kz,Xg,WT,an,ai,tC,sT,dz];go_wp2
end
theorem Ww(p b pb cv gv o q l j m d g:WO)(ra:Option Xp)(n c:Nat)(w:WH)(h:b=.slice ra n c):r3.wp WL (λe a w'=>e=.normal/\a=⟨sT p b pb cv gv n 0 (λk=>if k=3 then o else if k=4 then q else if k=7 then l else if k=8 then j else if k=9 then m else if k=10 then d else if k=11 then g else WG),[]⟩/\w'=w) ⟨#[p,b,pb,o,q,cv,gv,l,j,m,d,g,WG,WG,WG,WG,WG,WG,WG,WG,WG,WG,WG,WG],[]⟩ w:=by subst h;simp only[r3,t3,kz,Xg,WT,an,ai,sT];go_wp2
theorem QT(p rd pb gv:WO)(n i b:Nat)(f:Nat->WO)(w:WH)(ra:Xp)(m k:Nat)(d:w.cell? ⟨b,0,WI⟩=WJ (.slice (WJ ra) m k)):lP.wp WL (λe a w'=>e=.normal/\a.defers=[]/\a.tmps.getD 4 WG=.slice (WJ ra) m k/\w'=w) ⟨sT p rd pb (.pointer (WJ ⟨b,0,WI⟩)) gv n i f,[]⟩ w:=by simp only[lP,t9,t3,kz,Xg,WT,an,ai,sT];go_wp2
end
section
open Go.RowKit Go.Maps
theorem aK.TR{z:Nat}{O:Nat->Nat}{w:WH}{e:Nat}{c:ak}{vB vL:WO}{K R:Nat}{f:Nat->WO}{E:aA}(h:aK z O w e c vB vL K R f E){i:Nat}(o:c.D.nb<=3)(hi:i<c.D.nl)(r:nH):aK z O ((((((w.setCell ⟨R,i*6,WI⟩ (.bool r.dn)).setCell ⟨R,i*6+1,WI⟩ (.bool r.ab)).setCell ⟨R,i*6+2,WI⟩ (.int .i64 (r.r 0))).setCell ⟨R,i*6+3,WI⟩ (.int .i64 (r.r 1))).setCell ⟨R,i*6+4,WI⟩ (.int .i64 (r.r 2))).setCell ⟨R,i*6+5,WI⟩ (.int .i64 (r.r 3))) e c vB vL K R f {E with res:=upd E.res i r}/\Ag z O w ((((((w.setCell ⟨R,i*6,WI⟩ (.bool r.dn)).setCell ⟨R,i*6+1,WI⟩ (.bool r.ab)).setCell ⟨R,i*6+2,WI⟩ (.int .i64 (r.r 0))).setCell ⟨R,i*6+3,WI⟩ (.int .i64 (r.r 1))).setCell ⟨R,i*6+4,WI⟩ (.int .i64 (r.r 2))).setCell ⟨R,i*6+5,WI⟩ (.int .i64 (r.r 3))):=by
 have u:Own z O R:=⟨by rw[h.oR];omega,by rw[h.oR];omega⟩;have y:=(((((h.res.setCell (i*6) (.bool r.dn)).setCell (i*6+1) (.bool r.ab)).setCell (i*6+2) (.int .i64 (r.r 0))).setCell (i*6+3) (.int .i64 (r.r 1))).setCell (i*6+4) (.int .i64 (r.r 2))).setCell (i*6+5) (.int .i64 (r.r 3));have d:Ag z O w ((((((w.setCell ⟨R,i*6,WI⟩ (.bool r.dn)).setCell ⟨R,i*6+1,WI⟩ (.bool r.ab)).setCell ⟨R,i*6+2,WI⟩ (.int .i64 (r.r 0))).setCell ⟨R,i*6+3,WI⟩ (.int .i64 (r.r 1))).setCell ⟨R,i*6+4,WI⟩ (.int .i64 (r.r 2))).setCell ⟨R,i*6+5,WI⟩ (.int .i64 (r.r 3))):=by have n:=λB:gy z O R=>B u;exact((((((ao.refl _ _).setCell n _).setCell n _).setCell n _).setCell n _).setCell n _).setCell n _
 have a:∀b,b≠R->((((((w.setCell ⟨R,i*6,WI⟩ (.bool r.dn)).setCell ⟨R,i*6+1,WI⟩ (.bool r.ab)).setCell ⟨R,i*6+2,WI⟩ (.int .i64 (r.r 0))).setCell ⟨R,i*6+3,WI⟩ (.int .i64 (r.r 1))).setCell ⟨R,i*6+4,WI⟩ (.int .i64 (r.r 2))).setCell ⟨R,i*6+5,WI⟩ (.int .i64 (r.r 3))).heap[b]?=w.heap[b]?:=by intro b l;iterate 6 rw[Below.heap_setCell _ _ _ _ l]
 refine⟨?_,d⟩;generalize v:((((((w.setCell ⟨R,i*6,WI⟩ (.bool r.dn)).setCell ⟨R,i*6+1,WI⟩ (.bool r.ab)).setCell ⟨R,i*6+2,WI⟩ (.int .i64 (r.r 0))).setCell ⟨R,i*6+3,WI⟩ (.int .i64 (r.r 1))).setCell ⟨R,i*6+4,WI⟩ (.int .i64 (r.r 2))).setCell ⟨R,i*6+5,WI⟩ (.int .i64 (r.r 3)))=w' at*;have oK:=h.oK;have oR:=h.oR;refine⟨λg A=>h.k g (d.step A (λ_ _=>rfl)),oK,oR,h.row.block (a K (λe=>by rw[e]at oK;omega)),λp s m hs=>(h.part p s m hs).move d (λ_ _=>rfl) (λb l x=>a b (λe=>?_)),?_⟩;·rw[e,oR]at x;omega
 ·refine y.congr λj F=>?_;(have hd:j/6=i\/j/6≠i:=by omega);rcases hd with hd|hd;(·(have t:j=i*6+j%6:=by omega);have C:j%6<6:=Nat.mod_lt _ (by omega);rw[hd];simp only[upd_same];generalize j%6=q at*;subst t;(have:q=0\/q=1\/q=2\/q=3\/q=4\/q=5:=by omega);rcases this with rfl|rfl|rfl|rfl|rfl|rfl<;>simp[sC]);·show _=sC (upd E.res i r (j/6)) (j%6);rw[bC _ _ hd];rw[if_neg (by omega),if_neg (by omega),if_neg (by omega),if_neg (by omega),if_neg (by omega),if_neg (by omega)]
noncomputable def lF:W7:=Tryz.f67.body.getD .skip
noncomputable def q0:W7:=an lF
noncomputable def q1:W7:=an (ai lF)
noncomputable def q2:W7:=an (an (ai (ai lF)))
noncomputable def qB:W7:=ai (an (ai (ai lF)))
noncomputable def qE:W7:=ai (ai (ai lF))
theorem OT:lF=.seq q0 (.seq q1 (.seq (.seq q2 qB) qE)):=rfl
def CH(z:Nat)(O:Nat->Nat)(w:WH)(nb i:Nat)(m:aV):Prop:=∃b a,(∀w',Ag z O w w'->w'.cell? ⟨nb,i*6,WI⟩=WJ (.bool m.ab)/\w'.cell? ⟨nb,i*6+1,WI⟩=WJ (.int .i64 (m.r 0))/\w'.cell? ⟨nb,i*6+2,WI⟩=WJ (.int .i64 (m.r 1))/\w'.cell? ⟨nb,i*6+3,WI⟩=WJ (.int .i64 (m.r 2))/\w'.cell? ⟨nb,i*6+4,WI⟩=WJ (.int .i64 (m.r 3))/\w'.cell? ⟨nb,i*6+5,WI⟩=WJ (.slice b m.ch.length a))/\nV z O w (.slice b m.ch.length a) m.ch
theorem nV.move{z:Nat}{O O':Nat->Nat}{w w':WH}{v:WO}{l:List fy}(h:nV z O w v l)(c:Ag z O w w')(d:∀b,b<w.heap.size->O' b=O b):nV z O' w' v l:=⟨h.1,λa e=>h.2 a (c.step e d)⟩
def gV(D:aH)(p:Nat)(L:List (Nat×aV))(k:Nat)(E:aA):aA:=(L.take k).foldl (ez D p) E
theorem Ft(D:aH)(p:Nat){L:List (Nat×aV)}{k:Nat}{x:Nat×aV}(a:L[k]?=WJ x)(E:aA):gV D p L (k+1) E=ez D p (gV D p L k E) x:=by unfold gV;rw[List.take_add_one,a];simp
def dN(O:Nat->Nat)(n:Nat)(b:Nat):Nat:=if b<n then O b else 0
theorem iV(O:Nat->Nat){n b:Nat}(h:b<n):dN O n b=O b:=if_pos h
theorem sE(O:Nat->Nat){n b:Nat}(h:n<=b):dN O n b=0:=if_neg (by omega)
theorem lI{z:Nat}{O:Nat->Nat}{b:Nat}(c:1<=z)(h:O b=0):gy z O b:=λa=>by have:=a.1;omega
theorem Oe(D:aH)(p i:Nat)(m:aV)(E:aA):(⟨upd (upd (upd E.part p (dR D p (E.part p) m.ch)) p {upd E.part p (dR D p (E.part p) m.ch) p with opn:=(upd E.part p (dR D p (E.part p) m.ch) p).opn.filter (λx=>!(x.ah==i))}) p {upd (upd E.part p (dR D p (E.part p) m.ch)) p {upd E.part p (dR D p (E.part p) m.ch) p with opn:=(upd E.part p (dR D p (E.part p) m.ch) p).opn.filter (λx=>!(x.ah==i))} p with taken:=(upd (upd E.part p (dR D p (E.part p) m.ch)) p {upd E.part p (dR D p (E.part p) m.ch) p with opn:=(upd E.part p (dR D p (E.part p) m.ch) p).opn.filter (λx=>!(x.ah==i))} p).taken.filter (λx=>!(x.ah==i))},upd E.res i ⟨Xe,m.ab,m.r⟩⟩:aA)=ez D p E (i,m):=by simp only[ui,upd_same];rfl
section
variable(z:Nat)(O:Nat->Nat)(w:WH)(e:Nat)(c:ak)(vB vL:WO)(K R:Nat)(f:Nat->WO)(E:aA)
theorem Sg(h:aK z O w e c vB vL K R f E)(H:cA c)(hz:1<=z)(p:Nat)(hp:p<=c.D.nb)(L:List (Nat×aV))(ra:Option Xp)(rc eb ec:Nat)(hL:L.length<=4)(av:∀i x,L[i]?=WJ x->x.1<c.D.nl/\∃rb ro,ra=WJ ⟨rb,ro,WI⟩/\∀w',Ag z O w w'->w'.cell? ⟨rb,ro+i*7,WI⟩=WJ (.int .i64 x.1))(ak:∀i x,L[i]?=WJ x->CH z O w eb i x.2/\∀y∈x.2.ch,y.key<100/\bn y.val)(hB:∀k,k<=L.length->((gV c.D p L k E).part p).opn.length<=1000/\((gV c.D p L k E).part p).taken.length<=1000/\∀x,L[k]?=WJ x->((gV c.D p L k E).part p).n+x.2.ch.length<=100000)(v4 v6 v7 v8 v9 aN aH aJ:WO):qB.wp WL (λex a w'=>ex=.normal/\a.defers=[]/\a.tmps.size=51/\a.tmps.getD 5 WG=.slice ra L.length rc/\bJ z O w e c vB vL K R (gV c.D p L L.length E) w') ⟨#[.pointer (WJ ⟨K,p*10,WI⟩),.slice (WJ ⟨R,0,WI⟩) c.D.nl c.D.nl,WG,WG,v4,.slice ra L.length rc,v6,v7,v8,v9,aN,aH,aJ,.slice (WJ ⟨eb,0,WI⟩) L.length ec,.int .i64 L.length,.int .i64 0,WG,WG,WG,WG,WG,WG,WG,WG,WG,WG,WG,WG,WG,WG,WG,WG,WG,WG,WG,WG,WG,WG,WG,WG,WG,WG,WG,WG,WG,WG,WG,WG,WG,WG,WG],[]⟩ w:=by
 have aL:=H.G.nb;have aQ:c.D.nl<=1048577:=by obtain⟨_,_,_,hn,_⟩:=h.known.l;exact hn
 have ay:Hid (bJ z O w e c vB vL K R (gV c.D p L 0 E) w):=⟨O,f,h,ao.refl _ _,λ_ _=>rfl⟩;simp only[qB,lF,Tryz.f67,WT,an,ai];generalize hn:L.length=n at*;have aF:Hid (L.length=n):=hn;clear hn h;go_wp2_with fail;go_loopw[15](λj wr=>∃k:Nat,k<=n/\j=.int .i64 k/\bJ z O w e c vB vL K R (gV c.D p L k E) wr)(λj _=>n-(intOf j).toNat);case atStart=>exact⟨0,Nat.zero_le _,rfl,ay.out⟩
 case round=>obtain⟨k,hk,rfl,hG⟩:=hrel;by_cases aI:k<n;(·obtain⟨x,hx⟩:∃x,L[k]?=WJ x:=⟨L[k]'(by rw[aF.out];exact aI),by simp⟩;obtain⟨J,f1,aq,o,q⟩:=hG;obtain⟨az,rb,ro,rfl,aj⟩:=av k x hx;obtain⟨⟨t,s,F,ac⟩,B⟩:=ak k x hx;obtain⟨aA,am,U⟩:=hB k (by omega);have U:=U x hx;have c0:=aj wr o;obtain⟨d0,d1,d2,d3,d4,d5⟩:=F wr o;(have aC:(k:Int)<(n:Int):=by omega);(have aS:(0:Int)<=(k:Int):=by omega);have aG:Hid (gV c.D p L (k+1) E=ez c.D p (gV c.D p L k E) x):=Ft c.D p hx E;obtain⟨i,m⟩:=x;simp only at az U B ac aj F c0 d0 d1 d2 d3 d4 d5;(have aR:(0:Int)<=(i:Int):=by omega);(have aP:(i:Int)<(c.D.nl:Int):=by omega);clear F aj av ak hB;have P:Below wr.heap.size wr (wr.alloc (.cells #[.bool m.ab,.int .i64 (m.r 0),.int .i64 (m.r 1),.int .i64 (m.r 2),.int .i64 (m.r 3),.slice t m.ch.length s] 202)):=(Below.refl _ _).alloc (Xq _) _;have aB:aK z (dN J wr.heap.size) (wr.alloc (.cells #[.bool m.ab,.int .i64 (m.r 0),.int .i64 (m.r 1),.int .i64 (m.r 2),.int .i64 (m.r 3),.slice t m.ch.length s] 202)) e c vB vL K R f1 (gV c.D p L k E):=aq.move (λb v=>P.block b v) P.size (λb v=>iV J v);have ap:nV z (dN J wr.heap.size) (wr.alloc (.cells #[.bool m.ab,.int .i64 (m.r 0),.int .i64 (m.r 1),.int .i64 (m.r 2),.int .i64 (m.r 3),.slice t m.ch.length s] 202)) (.slice t m.ch.length s) m.ch:=(ac.move o q).move (ao.bq P) (λb v=>iV J v);have rA:=cH wr [.bool m.ab,.int .i64 (m.r 0),.int .i64 (m.r 1),.int .i64 (m.r 2),.int .i64 (m.r 3),.slice t m.ch.length s] 202;have kA:=jl wr (.cells #[.bool m.ab,.int .i64 (m.r 0),.int .i64 (m.r 1),.int .i64 (m.r 2),.int .i64 (m.r 3),.slice t m.ch.length s] 202) c0;have aa:Ag z O w (wr.alloc (.cells #[.bool m.ab,.int .i64 (m.r 0),.int .i64 (m.r 1),.int .i64 (m.r 2),.int .i64 (m.r 3),.slice t m.ch.length s] 202)):=o.step (ao.bq P) q;have aO:=o.size;have g0:(wr.alloc (.cells #[.bool m.ab,.int .i64 (m.r 0),.int .i64 (m.r 1),.int .i64 (m.r 2),.int .i64 (m.r 3),.slice t m.ch.length s] 202)).cell? ⟨wr.heap.size,0,WI⟩=WJ (.bool m.ab):=rA.cell (j:=0) (by simp);have g1:(wr.alloc (.cells #[.bool m.ab,.int .i64 (m.r 0),.int .i64 (m.r 1),.int .i64 (m.r 2),.int .i64 (m.r 3),.slice t m.ch.length s] 202)).cell? ⟨wr.heap.size,1,WI⟩=WJ (.int .i64 (m.r 0)):=rA.cell (j:=1) (by simp);have g2:(wr.alloc (.cells #[.bool m.ab,.int .i64 (m.r 0),.int .i64 (m.r 1),.int .i64 (m.r 2),.int .i64 (m.r 3),.slice t m.ch.length s] 202)).cell? ⟨wr.heap.size,2,WI⟩=WJ (.int .i64 (m.r 1)):=rA.cell (j:=2) (by simp);have g3:(wr.alloc (.cells #[.bool m.ab,.int .i64 (m.r 0),.int .i64 (m.r 1),.int .i64 (m.r 2),.int .i64 (m.r 3),.slice t m.ch.length s] 202)).cell? ⟨wr.heap.size,3,WI⟩=WJ (.int .i64 (m.r 2)):=rA.cell (j:=3) (by simp);have g4:(wr.alloc (.cells #[.bool m.ab,.int .i64 (m.r 0),.int .i64 (m.r 1),.int .i64 (m.r 2),.int .i64 (m.r 3),.slice t m.ch.length s] 202)).cell? ⟨wr.heap.size,4,WI⟩=WJ (.int .i64 (m.r 3)):=rA.cell (j:=4) (by simp);have g5:(wr.alloc (.cells #[.bool m.ab,.int .i64 (m.r 0),.int .i64 (m.r 1),.int .i64 (m.r 2),.int .i64 (m.r 3),.slice t m.ch.length s] 202)).cell? ⟨wr.heap.size,5,WI⟩=WJ (.slice t m.ch.length s):=rA.cell (j:=5) (by simp);have S:gy z (dN J wr.heap.size) wr.heap.size:=lI hz (sE J (Xq _));(have u:wr.heap.size<(wr.alloc (.cells #[.bool m.ab,.int .i64 (m.r 0),.int .i64 (m.r 1),.int .i64 (m.r 2),.int .i64 (m.r 3),.slice t m.ch.length s] 202)).heap.size:=by simp);(have ae:∀b,b<w.heap.size->dN J wr.heap.size b=O b:=λb v=>by rw[iV J (by omega)];exact q b v);clear rA P aq ac o q ay;go_wp2_with fail;refine(SS z _ _ e c vB vL K R f1 _ aB H p hp _ m.ch ap U B).mono ?_;rintro r wC⟨rfl,O2,f2,au,Q,A⟩;clear g5;(have ax:((upd (gV c.D p L k E).part p (dR c.D p ((gV c.D p L k E).part p) m.ch)) p).opn.length<=1000:=by rw[upd_same];exact aA);(have ah:((upd (gV c.D p L k E).part p (dR c.D p ((gV c.D p L k E).part p) m.ch)) p).taken.length<=1000:=by rw[upd_same];exact am);clear ap B aA am U;go_wp2_with fail;refine(SP z _ _ e c vB vL K R f2 _ au H p i hp ax).mono ?_;rintro r aM⟨rfl,O3,f3,aw,Z,V⟩;clear ax;go_wp2_with fail;refine(Ia z _ _ e c vB vL K R f3 _ aw H p i hp (by simp only[upd_same]at ah⊢;exact ah)).mono ?_;rintro r wD⟨rfl,O4,f4,ad,X,T⟩;clear ah;have C:Ag z (dN J wr.heap.size) (wr.alloc (.cells #[.bool m.ab,.int .i64 (m.r 0),.int .i64 (m.r 1),.int .i64 (m.r 2),.int .i64 (m.r 3),.slice t m.ch.length s] 202)) aM:=Q.step Z A;(have I:∀b,b<(wr.alloc (.cells #[.bool m.ab,.int .i64 (m.r 0),.int .i64 (m.r 1),.int .i64 (m.r 2),.int .i64 (m.r 3),.slice t m.ch.length s] 202)).heap.size->O3 b=dN J wr.heap.size b:=λb v=>by rw[V b (Xw v Q.size)];exact A b v);have g:Ag z (dN J wr.heap.size) (wr.alloc (.cells #[.bool m.ab,.int .i64 (m.r 0),.int .i64 (m.r 1),.int .i64 (m.r 2),.int .i64 (m.r 3),.slice t m.ch.length s] 202)) wD:=C.step X I;(have N:∀b,b<(wr.alloc (.cells #[.bool m.ab,.int .i64 (m.r 0),.int .i64 (m.r 1),.int .i64 (m.r 2),.int .i64 (m.r 3),.slice t m.ch.length s] 202)).heap.size->O4 b=dN J wr.heap.size b:=λb v=>by rw[T b (Xw v C.size)];exact I b v);(have q0:wD.cell? ⟨wr.heap.size,0,WI⟩=WJ (.bool m.ab):=by rw[g.cell S u];exact g0);(have q1:wD.cell? ⟨wr.heap.size,1,WI⟩=WJ (.int .i64 (m.r 0)):=by rw[g.cell S u];exact g1);(have q2:wD.cell? ⟨wr.heap.size,2,WI⟩=WJ (.int .i64 (m.r 1)):=by rw[g.cell S u];exact g2);(have q3:wD.cell? ⟨wr.heap.size,3,WI⟩=WJ (.int .i64 (m.r 2)):=by rw[g.cell S u];exact g3);(have q4:wD.cell? ⟨wr.heap.size,4,WI⟩=WJ (.int .i64 (m.r 3)):=by rw[g.cell S u];exact g4);have d:=ad.res;have fR:=d.frozen;have t0:=d.cell (j:=i*6) (by omega);have t1:=d.cell (j:=i*6+1) (by omega);have t2:=d.cell (j:=i*6+2) (by omega);have t3:=d.cell (j:=i*6+3) (by omega);have t4:=d.cell (j:=i*6+4) (by omega);have t5:=d.cell (j:=i*6+5) (by omega);obtain⟨aE,W⟩:=ad.TR aL az ⟨Xe,m.ab,m.r⟩;have Y:=aa.step g ae;(have M:∀b,b<w.heap.size->O4 b=O b:=λb v=>by rw[N b (by simp;omega)];exact ae b v);have af:=Y.step W M;clear C I g N Q Z X A V T au aw aB g0 g1 g2 g3 g4 kA aa ae Y d ad W c0 d0 d1 d2 d3 d4 d5;generalize aD:wr.heap.size=Nr at*;clear aD;go_wp2_with fail;go_roundw;(case rel=>refine⟨k+1,by omega,by go_num,O4,f4,?_,af,M⟩;rw[aG.out,<-Oe];exact aE);case measure=>simp[intOf];omega);·(have ar:k=n:=by omega);have al:Hid (k=n):=ar;clear ar;(have aC:¬(k:Int)<(n:Int):=by omega);go_wp2_with fail;have:=hG;rw[al.out]at this;exact this
end
end
end Go.Proofs.YtldeiiffabfmeaaGreatDoor
namespace Go.Rel
section
open Go.Conc Go.ConcN
open Go.ConcR(KK wgBlock WgAt stA smA rd wr mk Payload DC0 Bk g_of_ofEvents bk_of_mute ofEvent_loc_mark ofEvent_cell deafBehind_cons deafBehind_one)
variable[Xf]
omit[Payload]in theorem Vj{c d:Type}(f:Nat->c)(g:Nat->d)(x:c)(y:d)(b:c->d->Nat){i j:Nat}(hi:i<j):sumTo j (λa=>b (upd f i x a) (upd g i y a))+b (f i) (g i)=sumTo j (λa=>b (f a) (g a))+b x y:=by
 have:=sumTo_upd (λa=>(f a,g a)) (x,y) (λp=>b p.1 p.2) hi;have e:(sumTo j λa=>b (upd f i x a) (upd g i y a))=sumTo j λa=>b (upd (λa=>(f a,g a)) i (x,y) a).1 (upd (λa=>(f a,g a)) i (x,y) a).2:=sumTo_congr λa _=>by by_cases e:a=i;(·subst e;simp only[upd_same]);·simp only[upd_ne _ _ e]
 rw[e];exact this
omit[Payload]in theorem yx{ρ:ax}{w:WH}{e:W6}(h:mC ρ w e):(∀a,e.loc≠.mark (.release a))/\e.loc≠.mark .disable/\e.loc≠.mark .enable:=by obtain⟨b,wr,d⟩:=e;cases b with|mark m=>have c:m.bare:=h;refine⟨λa e=>?_,λe=>?_,λe=>?_⟩<;>(simp only[Loc.mark.injEq]at e;subst e;exact c)|_=>exact⟨(λa e=>by cases e),(λe=>by cases e),(λe=>by cases e)⟩
omit[Payload]in theorem FG{ok:ak}{ρ:ax}{wh w:WH}(g:bh ok ρ wh w){e:W6}(h:mC ρ wh e):(WN e).low w.heap.size:=by obtain⟨f,wr,j⟩:=e;cases f with|cell a=>obtain⟨d,b,c,_⟩:=h;rw[ofEvent_cell];exact(g.lt c).2|obj r=>obtain⟨d,b,c,_⟩:=h;simp only at d c;subst d;(have e:WN ⟨.obj r,wr,W3⟩=.access ⟨.obj r,wr,W3⟩:=by cases wr<;>rfl);rw[e];exact(g.lt c).2|mark m=>have i:m.bare:=h;(cases m<;>first|exact i.elim|trivial)|_=>exact h.elim
section
variable{ok:ak}{P:WX}{J:dU}{j:Nat}{ρ0:ax}{wh0:WH}{d0:Nat}{tag:XK}{a:WK}
theorem worker(X:Stat J)(F:Fits J.ok P)(B:eF J.ok P)(hT:AH P J)(hn:j<2147483647)(s:Sn)(h:bB ok P J j ρ0 wh0 d0 tag s)(ha:s.gs[0]?=WJ a)(a7:jP a tag){i:Nat}(hi:i<j){g:WK}(hg:s.gs[J.n0+i]?=WJ g)(aq:g.status=.running)(sl:Option (Nat×Nat)):∃s' ops a' tag',runT P (crowd s.gs s.w sl) (J.n0+i)=(.next (crowd s'.gs s'.w sl),ops)/\s'.t=s.t++ops/\bB ok P J j ρ0 wh0 d0 tag' s'/\s'.gs[0]?=WJ a'/\mz a tag a' tag'/\jP a' tag'/\lL P J j s' s/\Vc j s'.D<=Vc j s.D:=by
 obtain⟨gs,w,t,E,D,U,q,st,sm⟩:=s;obtain⟨I,K,M⟩:=h;simp only at I K M ha hg;have bo:=X.pos;obtain⟨lW,lC,lR,lN,_,_⟩:=I.mem.lt;have a8:(J.n0+i==0)=W3:=by simp;omega
 have a2:XL t (J.n0+i)=(D i).deaf:=I.deafW i hi;have bu:=(I.mem.kO i hi).1;have fin:∀{g':WK}{w':WH}{es:Array W6}{E':Gh}{u' s' m' dd':Nat}{af ah:Int},stepG P W3 g w=.go g' w' es->pG J i (E i) E' w w'->w'.heap[J.C]?=w.heap[J.C]?->(fi J w->fi J w')->(∀i',i'<j->i'≠i->RT J i' w w')->WS P J i E' u' s' m' dd' g' w'->(∀op∈WQ (J.n0+i) g.frame.fn g.frame.place es,wJ (ShN J.Wg) (oX J j (upd E i E')) (pK J j (upd E i E')) (J.n0+i) op)->(∀e∈es,e.loc≠.mark (.release (stA J.Wg)))->deafBehind (D i).deaf es=dd'->(s'<=6->∃r,kH (ShN J.Wg) (stA J.Wg) (t++WQ (J.n0+i) g.frame.fn g.frame.place es) (J.n0+i) r)->(s'<=6->Out J i E' w')->(∀e∈es,(WN e).low w'.heap.size)->XN J.ty J.Wg w' af ah->(∀tag',(tag'=tag\/(tag=.blk/\tag'=.w3))->(mayWake P g=Xe->g'.status=.running->tag'≠.blk)->Xd j (upd D i ⟨s',m',dd'⟩) tag' af ah)->WM ⟨s',m',dd'⟩<=WM (D i)->(3*s'+u'<3*(D i).stage+U i\/(s'=(D i).stage/\u'=U i/\((U i≠0/\xg P (J.S i) (E'.l,E'.wh) ((E i).l,(E i).wh))\/(E'=E i/\m'<(D i).fuel))))->∃s' ops a' tag',runT P (crowd gs w sl) (J.n0+i)=(.next (crowd s'.gs s'.w sl),ops)/\s'.t=t++ops/\bB ok P J j ρ0 wh0 d0 tag' s'/\s'.gs[0]?=WJ a'/\mz a tag a' tag'/\jP a' tag'/\lL P J j s' ⟨gs,w,t,E,D,U,q,st,sm⟩/\Vc j s'.D<=Vc j D:=by intro g' w' es E' u' s' m' dd' af ah n hD hv ar a9 ao bh bg aP hrel az a1 ak V bn O;obtain⟨tag',k1,k2,k3⟩:=FD (P:=P) a7 g g' w';have aU:=runT_crowd_go (P:=P) (sl:=sl) (i:=J.n0+i) hg (by rw[a8];exact n);have e1:=Vj D U (⟨s',m',dd'⟩:WD) u' (λd u=>3*d.stage+u) hi;have e2:=sumTo_upd D (⟨s',m',dd'⟩:WD) WD.fuel hi;have e3:=Vc_upd D (⟨s',m',dd'⟩:WD) hi;simp only at e1 e2;refine⟨⟨_,w',_,upd E i E',upd D i ⟨s',m',dd'⟩,upd U i u',q,af,ah⟩,_,_,tag',aU,rfl,⟨I.stepW X hi hD hv ar a9 ao bh bg aP hrel az a1,ak,V tag' k1.retag k3⟩,?_,k1,k2,?_,?_⟩;(·show((gs.map (woken P g g' w')).setIfInBounds (J.n0+i) g')[0]?=_;rw[get_map_set _ _ _ _ (by omega),ha];rfl);(·rcases O with O|⟨rfl,rfl,O⟩;(·refine .inl ?_;simp only[kk];omega);·(have hk:kk j (⟨(gs.map (woken P g g' w')).setIfInBounds (J.n0+i) g',w',t++WQ (J.n0+i) g.frame.fn g.frame.place es,upd E i E',upd D i ⟨(D i).stage,m',dd'⟩,upd U i (U i),q,af,ah⟩:Sn)=kk j (⟨gs,w,t,E,D,U,q,st,sm⟩:Sn):=by simp only[kk];omega);refine .inr ⟨hk,?_⟩;(have aZ:∀k,k<j->k≠i->vv (⟨(gs.map (woken P g g' w')).setIfInBounds (J.n0+i) g',w',t++WQ (J.n0+i) g.frame.fn g.frame.place es,upd E i E',upd D i ⟨(D i).stage,m',dd'⟩,upd U i (U i),q,af,ah⟩:Sn) k=vv (⟨gs,w,t,E,D,U,q,st,sm⟩:Sn) k:=by intro k _ aH;simp only[vv,upd_ne _ _ aH]);rcases O with⟨h0,O⟩|⟨rfl,O⟩;(·refine .inl ⟨i,hi,?_,aZ⟩;simp only[vv,upd_same,h0,if_false];exact O);·refine .inr ⟨λk hk=>?_,?_⟩;(·by_cases e:k=i;(·subst e;simp only[vv,upd_same]);·exact aZ k hk e);·simp only[ff];omega);·simp only at e3⊢;omega
 have au:∀{i'},RT J i' w w:=λ{i'}=>RT.refl w;have same:∀{m' dd':Nat}{tag':XK},(tag'=tag\/(tag=.blk/\tag'=.w3))->Xd j (upd D i ⟨(D i).stage,m',dd'⟩) tag' st sm:=λht=>(M.same _ _).retag ht;obtain⟨a0,aA,hs⟩:=I.wk i hi;obtain rfl:g=a0:=by rw[hg]at aA;exact W8 aA
 have aG:∀{m:Nat},(D i).stage=7->(D i).deaf=0->(U i≠0\/(D i).fuel=m)->XC P W3 (RT J i) (DT J i) (λg w=>AtR0 P J.ty J.Wg J.C 1 0 1 J.val g w/\Out J i (E i) w) m g w->∃s' ops a' tag',runT P (crowd gs w sl) (J.n0+i)=(.next (crowd s'.gs s'.w sl),ops)/\s'.t=t++ops/\bB ok P J j ρ0 wh0 d0 tag' s'/\s'.gs[0]?=WJ a'/\mz a tag a' tag'/\jP a' tag'/\lL P J j s' ⟨gs,w,t,E,D,U,q,st,sm⟩/\Vc j s'.D<=Vc j D:=by intro m h7 H hx hG;rcases Xc hG with A|⟨m',rfl,y⟩;(·obtain⟨⟨_,bp,g',n,aj,hk⟩,az⟩:=A w (RT.refl w);refine fin n (pG.aside I.mem hi (λ_ _=>rfl) rfl) rfl id (λ_ _ _=>au) (.n7 (s:=6) (by omega) (.k1 hk)) (λop am=>?_) (by intro e p;simp at p;subst p;simp[mk]) (dd':=0) (by rw[H];rfl) (λ_=>⟨t.size,?_⟩) (λ_=>az) (by intro e p;simp at p;subst p;simpa[mk,WN,XM,stA]using lW) K (λ_ ht _=>(M.counted hi (by omega) (.inl rfl) _ _).retag ht) (by simp[WM,h7]) (.inl (by omega));(·obtain⟨e,p,rfl⟩:=WR am;simp only[Array.mem_singleton,List.mem_toArray,List.mem_singleton]at p;subst p;exact⟨rfl,λx hx=>by simp[mk,WN,WU]at hx⟩);·refine⟨RelBy.new (a2.trans H) _ _,λi' x aY T hx=>?_⟩;obtain⟨op,am,_⟩:=touch_of hx;have:=lt_size_of_getElem? am;rw[ofEvents_eq]at this;simp at this;omega);·obtain⟨g',w',es,n,Q,T⟩:=y w (RT.refl w);have br:∀b,¬(E i).ρ b J.R:=λb hb=>(I.mem.gU i hi b _ hb).2.1 rfl;have aB:w'.heap[J.Wg]?=w.heap[J.Wg]?:=Q.block _ (Ne.symm X.rw);have hC:w'.heap[J.C]?=w.heap[J.C]?:=Q.block _ (Ne.symm X.rc);refine fin n ⟨rfl,qG (I.mem.rel i hi) (by rw[Q.size];omega) (λb W hb=>Q.block W (I.mem.gU i hi b W hb).2.1) ⟨Q.os,Q.output⟩,ax.le.refl _,λb W hb=>.inl hb,I.mem.nD i hi,by rw[Q.size];omega,λW _ _ _ hb=>Q.block W hb⟩ hC Q.row (λi' aY aH=>⟨λ⟨st,sm,hl⟩=>⟨st,sm,hl.of_block aB⟩,hC,Q.row,λo p1 p2=>Q.cells o λhx=>aH (X.apart i' i o p1 p2 hx.1 hx.2)⟩) (.tail T) (λop am=>?_) (λe p=>?_) (dd':=0) ?_ (λh=>absurd h (by omega)) (λh=>absurd h (by omega)) (λe p=>?_) (K.of_block aB) (λtag' ht _=>by have:=same (m':=m') (dd':=0) ht;rwa[h7]at this) (by simp[WM,h7]) ?_;(·obtain⟨e,p,rfl⟩:=WR am;obtain⟨o,wr,rfl,p1,p2⟩:=Q.ev e p;refine⟨rfl,λx hx=>.inr (.inl ?_)⟩;simp only[ofEvent_cell,WU,WZ]at hx;subst hx;exact⟨i,hi,rfl,.inr ⟨o,rfl,p1,p2⟩⟩);(·obtain⟨o,wr,rfl,p1,p2⟩:=Q.ev e p;simp);(·rw[H];exact deafBehind_still (λe p=>by obtain⟨o,wr,rfl,p1,p2⟩:=Q.ev e p;simp) 0);(·obtain⟨o,wr,rfl,p1,p2⟩:=Q.ev e p;rw[ofEvent_cell,Q.size];exact lR);·rcases Nat.eq_zero_or_pos (U i)with h0|h0;(·refine .inr ⟨h7.symm,h0.symm,.inr ⟨rfl,?_⟩⟩;rcases hx with hx|hx;(·exact absurd h0 hx);·omega);·exact .inl (by omega)
 have a4:∀{f:WY}{Y:List WY},(D i).stage=7->(D i).deaf=0->1<=U i->g=G f (Y++J.base)->Safe J.ok P (J.S i) (E i).l (E i).wh->eA J.ok P (E i).ρ (E i).l (f::Y)->j8 J.defers J.kind (f::Y)->∃s' ops a' tag',runT P (crowd gs w sl) (J.n0+i)=(.next (crowd s'.gs s'.w sl),ops)/\s'.t=t++ops/\bB ok P J j ρ0 wh0 d0 tag' s'/\s'.gs[0]?=WJ a'/\mz a tag a' tag'/\jP a' tag'/\lL P J j s' ⟨gs,w,t,E,D,U,q,st,sm⟩/\Vc j s'.D<=Vc j D:=by intro f Y h7 H hu aK ae hL aI;by_cases hS:J.S i (E i).l (E i).wh;(·obtain⟨m,hm⟩:=hT i (E i) f Y w hS hL aI (I.mem.rel i hi) I.mem.row I.mem.var ⟨_,_,K⟩;exact aG h7 H (.inl (by omega)) (aK▸hm));·cases ae with|stop h=>exact absurd h hS|step hd aM aW=>obtain⟨ρ1,l1,w1,bq,fr,Z,gf,cs',av,es',be,hr,n,bi,N,ba⟩:=SL F B W3 J.base hL (I.mem.rel i hi) (I.mem.cU i hi) hd aM w.drawn;cases be;(have aX:stepG P W3 g w=.go (G gf (cs'++J.base)) av (seen P f.fn es'):=by rw[aK];exact n);have aa:∀W,W<w.heap.size->(∀c,(E i).ρ c W->W<(E i).bs)->av.heap[W]?=w.heap[W]?:=λW hb hc=>zl N hb λb a3=>I.mem.nD i hi b W a3 (hc b a3);have aB:av.heap[J.Wg]?=w.heap[J.Wg]?:=aa _ lW λc hc=>absurd rfl (I.mem.gU i hi c _ hc).1;have hR:av.heap[J.R]?=w.heap[J.R]?:=aa _ lR λc hc=>absurd rfl (I.mem.gU i hi c _ hc).2.1;have hC:av.heap[J.C]?=w.heap[J.C]?:=aa _ lC λc hc=>(I.mem.gU i hi c _ hc).2.2.1 rfl;(have aE:∀b W,ρ1 b W->W<(E i).bs->cG w1 b:=by intro b W hb O;rcases N.new hb with hb|⟨_,hb⟩;(·have:=I.mem.nD i hi b W hb O;exact this.congr (N.shut b this).1);·have:w.heap.size<=W:=hb;omega);have ar:fi J w->fi J av:=λ⟨cs,a,b⟩=>⟨cs,hR.trans a,b⟩;refine fin (E':=⟨ρ1,l1,w1,(E i).bs⟩) (u':=1) (s':=7) (m':=0) (dd':=0) aX ⟨rfl,N.rel,N.le,λb W hb=>(N.new hb).imp id λx=>x.2,aE,N.m8,λW hb hc _ _=>aa W hb hc⟩ hC ar (λi' aY aH=>⟨λ⟨st,sm,hl⟩=>⟨st,sm,hl.of_block aB⟩,hC,ar,λo _ _=>cell_of_block hR o⟩) (.gh (aW _ _ _ _ _ hr) bi (ba _ _ aI)) (λop am=>?_) (λe p=>(yx (N.ev e (by simpa using mem_seen p))).1 _) ?_ (λh=>absurd h (by omega)) (λh=>absurd h (by omega)) (λe p=>FG N.rel (N.ev e (by simpa using mem_seen p))) (K.of_block aB) (λtag' ht _=>by have:=same (m':=0) (dd':=0) ht;rwa[h7]at this) (by simp[WM,h7]) ?_;(·obtain⟨e,p,rfl⟩:=WR am;have bj:=N.ev e (by simpa using mem_seen p);refine⟨rfl,λx hx=>.inr ?_⟩;rcases(Hd bj hx).2 with⟨b,W,p1,p2,p3⟩|⟨⟨b,W,p1,p2,p3⟩,hw⟩;(·refine .inl ⟨i,hi,rfl,.inl ⟨b,W,by rw[upd_same];exact p1,?_,p2⟩⟩;rw[upd_same];exact Xy λO=>p3 (aE b W p1 O));·by_cases hb:(E i).bs<=W;(·exact .inl ⟨i,hi,rfl,.inl ⟨b,W,by rw[upd_same];exact p1,by rw[upd_same];exact hb,p2⟩⟩);·exact .inr ⟨⟨i,hi,rfl,b,W,by rw[upd_same];exact p1,by rw[upd_same];exact Xn hb,p2⟩,hw⟩);(·rw[H];exact deafBehind_still (λe p=>(yx (N.ev e (by simpa using mem_seen p))).2) 0);·rcases Xx 1 (U i)with h1|h1;(·exact .inl (by omega));·exact .inr ⟨h7.symm,by omega,.inl ⟨by omega,hS,_,_,_,hr⟩⟩
 have aD:∀{g':WK}{w':WH}{es:Array W6}{s' m' dd':Nat}{af ah:Int},(D i).stage<=6->U i=0->stepG P W3 g w=.go g' w' es->(∀b,b≠J.Wg->w'.heap[b]?=w.heap[b]?)->w'.heap.size=w.heap.size->(w'.os=w.os/\w'.output=w.output)->XN J.ty J.Wg w' af ah->(∀e∈es,Bk J.Wg e)->(∀jx e,es[jx]?=WJ e->(WN e).touch?=WI\/0<deafBehind (D i).deaf (es.extract 0 jx))->WSit P J.ty J.Wg J.C 1 (λ_ _=>False) (λ_ _=>False) 0 1 J.val s' m' dd' g' w'->deafBehind (D i).deaf es=dd'->(∀tag',(tag'=tag\/(tag=.blk/\tag'=.w3))->(mayWake P g=Xe->g'.status=.running->tag'≠.blk)->Xd j (upd D i ⟨s',m',dd'⟩) tag' af ah)->((s'<(D i).stage/\WM ⟨s',m',dd'⟩<=WM (D i))\/(s'=(D i).stage/\m'+1=(D i).fuel))->∃s' ops a' tag',runT P (crowd gs w sl) (J.n0+i)=(.next (crowd s'.gs s'.w sl),ops)/\s'.t=t++ops/\bB ok P J j ρ0 wh0 d0 tag' s'/\s'.gs[0]?=WJ a'/\mz a tag a' tag'/\jP a' tag'/\lL P J j s' ⟨gs,w,t,E,D,U,q,st,sm⟩/\Vc j s'.D<=Vc j D:=by intro g' w' es s' m' dd' af ah h6 h0 n hA aL ho ak aa hd ao aO V O;(have bm:s'<=6:=by omega);refine fin n (pG.aside I.mem hi hA aL ho) (hA _ X.cw) (λ⟨cs,a,b⟩=>⟨cs,(hA _ X.rw).trans a,b⟩) (λ_ _ _=>RT.aside X hA ⟨_,_,ak⟩) (.n7 bm ao) (SV aa) (norel_of_Bk aa) aO (λ_=>let⟨r,hr⟩:=I.rel i hi h6;⟨r,Kq hr a2 _ _ aa hd⟩) (λ_=>(RT.aside X hA ⟨_,_,ak⟩).out (I.out i hi h6)) (pN (by omega) aa) ak V ?_ ?_;(·rcases O with h|h;(·exact h.2);·simp only[WM,h.1];omega);·rcases O with h|h;(·exact .inl (by omega));·exact .inr ⟨h.1,h0.symm,.inr ⟨rfl,by omega⟩⟩
 have ai:∀{g':WK}{w':WH}{es:Array W6}{s' m' dd':Nat}{af ah:Int},(D i).stage<=6->U i=0->stepG P W3 g w=.go g' w' es->(∀b,b≠J.Wg->w'.heap[b]?=w.heap[b]?)->w'.heap.size=w.heap.size->(w'.os=w.os/\w'.output=w.output)->XN J.ty J.Wg w' af ah->(∀e∈es,Bk J.Wg e)->(∀jx e,es[jx]?=WJ e->(WN e).touch?=WI\/0<deafBehind (D i).deaf (es.extract 0 jx))->WSit P J.ty J.Wg J.C 1 (λ_ _=>False) (λ_ _=>False) 0 1 J.val s' m' dd' g' w'->deafBehind (D i).deaf es=dd'->Xd j (upd D i ⟨s',m',dd'⟩) tag af ah->((s'<(D i).stage/\WM ⟨s',m',dd'⟩<=WM (D i))\/(s'=(D i).stage/\m'+1=(D i).fuel))->∃s' ops a' tag',runT P (crowd gs w sl) (J.n0+i)=(.next (crowd s'.gs s'.w sl),ops)/\s'.t=t++ops/\bB ok P J j ρ0 wh0 d0 tag' s'/\s'.gs[0]?=WJ a'/\mz a tag a' tag'/\jP a' tag'/\lL P J j s' ⟨gs,w,t,E,D,U,q,st,sm⟩/\Vc j s'.D<=Vc j D:=λh6 h0 n hA aL ho ak aa hd ao aO V O=>aD h6 h0 n hA aL ho ak aa hd ao aO (λ_ ht _=>V.retag ht) O;have an:∀{g':WK}{s' m' dd':Nat},(D i).stage<=6->U i=0->stepG P W3 g w=.go g' w #[]->WSit P J.ty J.Wg J.C 1 (λ_ _=>False) (λ_ _=>False) 0 1 J.val s' m' dd' g' w->s'=(D i).stage->dd'=(D i).deaf->m'+1=(D i).fuel->∃s' ops a' tag',runT P (crowd gs w sl) (J.n0+i)=(.next (crowd s'.gs s'.w sl),ops)/\s'.t=t++ops/\bB ok P J j ρ0 wh0 d0 tag' s'/\s'.gs[0]?=WJ a'/\mz a tag a' tag'/\jP a' tag'/\lL P J j s' ⟨gs,w,t,E,D,U,q,st,sm⟩/\Vc j s'.D<=Vc j D:=by intro g' s' m' dd' h6 h0 n ao e1 e2 hm;subst e1 e2;exact ai h6 h0 n (λ_ _=>rfl) rfl ⟨rfl,rfl⟩ K (by simp) (by simp) ao rfl (M.same _ _) (.inr ⟨rfl,hm⟩)
 have aw:∀(ad:Xp)(v:WO),ad.block=J.Wg->∀b,b≠J.Wg->(w.setCell ad v).heap[b]?=w.heap[b]?:=λad v e b hb=>(aside_setCell w ad v).block b (by rw[e];exact hb);have aC:∀(ad:Xp)(v:WO),(w.setCell ad v).heap.size=w.heap.size:=λad v=>(aside_setCell w ad v).size;generalize z:(D i).stage=s7 at hs;generalize ap:(D i).fuel=m at hs;generalize H:(D i).deaf=dd at hs;generalize hu:U i=u at hs;cases hs with|pre ae h=>rcases Xc h with A|⟨m',rfl,y⟩;(·obtain⟨f,Y,e,hL,hb⟩:=A w (W9 w);exact a4 z H (by omega) e ae hL hb);·obtain⟨g',w',es,n,⟨rfl,rfl⟩,T⟩:=y w (W9 w);exact fin n (pG.aside I.mem hi (λ_ _=>rfl) rfl) rfl id (λ_ _ _=>au) (.pre ae T) (by intro op am;obtain⟨e,p,rfl⟩:=WR am;simp at p) (by simp) (by rw[H];rfl) (λh=>absurd h (by omega)) (λh=>absurd h (by omega)) (by simp) K (λtag' ht _=>by have:=same (m':=m') (dd':=0) ht;rwa[z]at this) (by simp[WM,z]) (.inr ⟨z.symm,hu.symm,.inr ⟨rfl,by omega⟩⟩)|gh ae hL hb=>exact a4 z H (by omega) rfl ae hL hb|tail h=>exact aG z H (.inr ap) h|n7 h6 h=>(have ac:(D i).stage<=6:=by omega);cases h with|r0 h=>omega|k1 h=>rcases Xc h with A|⟨m',rfl,y⟩;(·obtain⟨_,g',n,aj,hk⟩:=A w (W9 w);exact ai ac hu n (λ_ _=>rfl) rfl ⟨rfl,rfl⟩ K (by intro e p;simp at p;subst p;exact .inl rfl) (by intro jx e p;exact .inl (by have:=W5 p;simp at this;subst this;rfl)) (.d1 hk) (by rw[H];rfl) (M.counted hi (by omega) (.inr rfl) _ _) (.inl ⟨by omega,by simp[WM,z]⟩));·obtain⟨g',w',es,n,⟨rfl,rfl⟩,T⟩:=y w (W9 w);exact an ac hu n (.k1 T) z.symm H.symm ap.symm|d1 h=>rcases Xc h with A|⟨m',rfl,y⟩;(·obtain⟨_,aJ⟩:=A w (W9 w);have bt:=Vc_le j D;(have bd:WM (D i)=1:=by simp[WM,z]);(have bv:1<=Vc j D:=by have:=le_sumTo (f:=λx=>WM (D x)) hi;simp only[Vc];omega);(have aQ:∀e∈#[rd (stA J.Wg),wr (stA J.Wg)],Bk J.Wg e:=by intro e p;simp at p;rcases p with rfl|rfl<;>exact bk_cell _ _ rfl);(have aS:∀jx e,(#[rd (stA J.Wg),wr (stA J.Wg)]:Array W6)[jx]?=WJ e->(WN e).touch?=WI\/0<deafBehind (D i).deaf ((#[rd (stA J.Wg),wr (stA J.Wg)]:Array W6).extract 0 jx):=by intro jx e p;rw[H];match jx,p with|0,_=>exact .inr (by simp[deafBehind])|1,_=>exact .inr (by simp[deafBehind,rd])|jx+2,p=>simp at p);(have aT:deafBehind (D i).deaf #[rd (stA J.Wg),wr (stA J.Wg)]=1:=by rw[H];rfl);have a6:∀q,WM (⟨1,q,1⟩:WD)=0:=λ_=>rfl;(have a5:∀q,OpenSt j D->OpenSt j (upd D i ⟨1,q,1⟩):=λq h a ha=>by by_cases e:a=i;(·subst e;rw[upd_same];simp);·rw[upd_ne D _ e];exact h a ha);cases M with|opn h1 h2 h3=>(have hp:pend tag<=1:=by cases tag<;>simp only[pend]<;>(try split)<;>omega);obtain⟨v,hv⟩:∃v,Vc j D+pend tag=v+1:=⟨Vc j D+pend tag-1,by omega⟩;rw[hv]at K;(have aR:XN J.ty J.Wg w (((v:Nat)+1)*KK+((0:Nat):Int)) 0:=by simpa using K);obtain⟨g',n,_,hq⟩:=aJ v 0 (by omega) (by omega) aR;obtain⟨q,hq⟩:=hq (by omega);(have aV:Vc j (upd D i ⟨1,q,1⟩)+pend tag=v:=by have:=Vc_upd D (⟨1,q,1⟩:WD) hi;have:=a6 q;omega);refine ai ac hu n (aw _ _ rfl) (aC _ _) ⟨rfl,rfl⟩ (K.setSt _) aQ aS (.quit hq) aT ?_ (.inl ⟨by omega,by simp[WM]⟩);(have e:((v:Nat):Int)*KK+((0:Nat):Int)=((Vc j (upd D i ⟨1,q,1⟩)+pend tag:Nat):Int)*KK:=by rw[aV];simp);rw[e];exact .opn h1 (a5 q h2) (λvs ev=>by have:=h3 vs ev;omega)|reg h1 h2 h3=>obtain⟨v,hv⟩:∃v,Vc j D=v+1:=⟨Vc j D-1,by omega⟩;rw[hv]at K;(have aR:XN J.ty J.Wg w (((v:Nat)+1)*KK+((1:Nat):Int)) 0:=by simpa using K);obtain⟨g',n,hl,hq⟩:=aJ v 1 (by omega) (by omega) aR;by_cases bc:v=0;(·subst bc;obtain⟨aj,hk⟩:=hl ⟨rfl,rfl⟩;refine ai ac hu n (aw _ _ rfl) (aC _ _) ⟨rfl,rfl⟩ (K.setSt _) aQ aS (.d2 hk) aT ?_ (.inl ⟨by omega,by simp[WM]⟩);(have al:∀a,a<j->a≠i->(D a).stage=1:=λa ha e=>by have c0:=others_uncounted hi hv bd a ha e;have:=h2 a ha;simp only[WM]at c0;split at c0<;>omega);have:=Xj (j:=j) (D:=upd D i ⟨4,aj,1⟩) (tag:=tag) i h1 hi (by rw[upd_same];simp) (λa ha e=>by rw[upd_ne D _ e];exact al a ha e);rw[upd_same]at this;simpa using this);·obtain⟨q,hq⟩:=hq (by omega);(have aV:Vc j (upd D i ⟨1,q,1⟩)=v:=by have:=Vc_upd D (⟨1,q,1⟩:WD) hi;have:=a6 q;omega);refine ai ac hu n (aw _ _ rfl) (aC _ _) ⟨rfl,rfl⟩ (K.setSt _) aQ aS (.quit hq) aT ?_ (.inl ⟨by omega,by simp[WM]⟩);(have e:((v:Nat):Int)*KK+((1:Nat):Int)=((Vc j (upd D i ⟨1,q,1⟩):Nat):Int)*KK+1:=by rw[aV];simp);rw[e];exact .reg h1 (a5 q h2) (by omega)|last L _ h2 h3 h4=>by_cases e:i=L;(·subst e;omega);·have:=h4 i hi e;omega|sema h2=>have:=h2 i hi;omega|fin _ h2=>have:=h2 i hi;omega);·obtain⟨g',w',es,n,⟨rfl,rfl⟩,T⟩:=y w (W9 w);exact an ac hu n (.d1 T) z.symm H.symm ap.symm|d2 h=>rcases Xc h with A|⟨m',rfl,y⟩;(·obtain⟨_,hx⟩:=A w (W9 w);obtain⟨ay,al,rfl,rfl⟩:=M.isLast hi (by omega);simp only[z]at K;obtain⟨g',n,aj,hk⟩:=hx (by simpa using K);refine ai ac hu n (λ_ _=>rfl) rfl ⟨rfl,rfl⟩ K (by intro e p;simp at p;subst p;exact bk_cell _ _ rfl) (by intro jx e p;rw[H];match jx,p with|0,_=>exact .inr (by simp[deafBehind])|jx+1,p=>simp at p) (.d3 hk) (by rw[H];rfl) ?_ (.inl ⟨by omega,by simp[WM]⟩);have:=Xj (j:=j) (D:=upd D i ⟨3,aj,1⟩) (tag:=tag) i ay hi (by rw[upd_same];simp) (λa ha e=>by rw[upd_ne D _ e];exact al a ha e);rw[upd_same]at this;simpa using this);·obtain⟨g',w',es,n,⟨rfl,rfl⟩,T⟩:=y w (W9 w);exact an ac hu n (.d2 T) z.symm H.symm ap.symm|d3 h=>rcases Xc h with A|⟨m',rfl,y⟩;(·obtain⟨_,hx⟩:=A w (W9 w);obtain⟨ay,al,rfl,rfl⟩:=M.isLast hi (by omega);simp only[z]at K;obtain⟨g',n,aj,hk⟩:=hx (by simpa using K);refine ai ac hu n (aw _ _ rfl) (aC _ _) ⟨rfl,rfl⟩ (K.setSt 0) (by intro e p;simp at p;subst p;exact bk_cell _ _ rfl) (by intro jx e p;rw[H];match jx,p with|0,_=>exact .inr (by simp[deafBehind])|jx+1,p=>simp at p) (.d4 hk) (by rw[H];rfl) ?_ (.inl ⟨by omega,by simp[WM]⟩);have:=Xj (j:=j) (D:=upd D i ⟨2,aj,1⟩) (tag:=tag) i ay hi (by rw[upd_same];simp) (λa ha e=>by rw[upd_ne D _ e];exact al a ha e);rw[upd_same]at this;simpa using this);·obtain⟨g',w',es,n,⟨rfl,rfl⟩,T⟩:=y w (W9 w);exact an ac hu n (.d3 T) z.symm H.symm ap.symm|d4 h=>rcases Xc h with A|⟨m',rfl,y⟩;(·obtain⟨_,bb,hx⟩:=A w (W9 w);obtain⟨ay,al,rfl,rfl⟩:=M.isLast hi (by omega);simp only[z]at K;obtain⟨g',n,q,hq⟩:=hx (by simpa using K);(have aN:g'.status=.running:=by cases q with|zero=>exact absurd hq.2 (by decide)|succ q=>exact hq.elim (λx=>absurd x.2 (by decide)) (λx=>x.1));refine aD ac hu n (aw _ _ rfl) (aC _ _) ⟨rfl,rfl⟩ (K.setSm 1) (es:=semEvents (smA J.Wg)) ?_ ?_ (.quit hq) (by rw[H];simp[deafBehind,semEvents]) ?_ (.inl ⟨by omega,by simp[WM]⟩);(·intro e p;simp[semEvents]at p;rcases p with rfl|rfl|rfl|rfl;(·exact .inl rfl);(·exact bk_cell _ _ rfl);(·exact bk_cell _ _ rfl);·exact .inr (.inl rfl));(·intro jx e p;rw[H];match jx,p with|0,p=>simp[semEvents]at p;subst p;exact .inl rfl|1,_=>exact .inr (by simp[deafBehind,semEvents])|2,_=>exact .inr (by simp[deafBehind,semEvents])|3,p=>simp[semEvents]at p;subst p;exact .inl rfl|jx+4,p=>simp[semEvents]at p);·intro tag' ht hw;have bf:=hw bb aN;(have e3:tag'=.w3:=by rcases ht with rfl|⟨_,rfl⟩;(·cases tag'<;>first|rfl|exact ay.elim|exact absurd rfl bf);·rfl);subst e3;simp only[z,if_true];exact .sema λa ha=>by by_cases e:a=i;(·subst e;rw[upd_same]);·rw[upd_ne D _ e];exact al a ha e);·obtain⟨g',w',es,n,⟨rfl,rfl⟩,T⟩:=y w (W9 w);exact an ac hu n (.d4 T) z.symm H.symm ap.symm|quit h=>cases m with|zero=>rw[h.1]at aq;cases aq|succ q=>rcases h with⟨hf,_⟩|⟨_,g',es,aF,y,hq⟩;(·rw[hf]at aq;cases aq);·have aa:∀e∈es,Bk J.Wg e:=λe p=>bk_of_mute (aF e p);have bl:∀jx e,es[jx]?=WJ e->(WN e).touch?=WI\/0<deafBehind (D i).deaf (es.extract 0 jx):=λjx e p=>.inl (touch_mute (aF e (W5 p)));refine ai ac hu (y w) (λ_ _=>rfl) rfl ⟨rfl,rfl⟩ K aa bl (.quit hq) (by rw[H]) (by have:=M.same (i:=i) q (deafBehind dd es);rwa[z]at this) (.inr ⟨z.symm,ap.symm⟩)
end
end
end Go.Rel
