/- - -/
import Derived.Conc.Pipeline3
import Derived.Test.YtldeiiffabfmeaaGreatDoorAjm
set_option linter.all false
set_option maxRecDepth 100000
set_option maxHeartbeats 4000000
open Option renaming some->I,none->J,map_some->bJ
open Go.Value renaming int->L,slice->U,pointer->V,bool->M,tuple->aq,nilFunc->ax,agg->aI,map->aM,iface->aV
open Go.IntKind renaming i64->O
open Go renaming Value->Y,World->z,Addr->ae,undef->ak,Frame->au,TypeId->aD,Item->aK,FuncId->aX,Program->bj,Goroutine->bn
open Go.Proofs.Tryz renaming prog->Z,func109->aJ,func130->bC,func136->bD,underlying3->bP
open Go.Obj renaming cells->S
open Go.Result renaming ok->q
open Go.Item renaming inRegion->y,code->an
open Option.some renaming inj->F,injEq->bu
open Bool renaming false->ah,true->aj
open Go.Ground renaming data->ai
open Go.Operand renaming tmp->ao,func->aU
open Go.Next renaming value->ar,enter->aA
open Or renaming inr->ay,inl->az
open Go.Act renaming eval->aE
open Array renaming getD_eq_getD_getElem?->aF,getElem?_eq_some_iff->aZ
open Go.Frame renaming enter->aG
open Nat renaming le_refl->aH,zero_le->bd,add_assoc->bg,mul_comm->bl,le_of_not_lt->bw,le_trans->bz
open Go.RowKit.Below renaming refl->aN,heap_setCell->bB
open Go.Op renaming fieldAddr->aP,call->aQ
open List renaming range->aW,getElem?_cons_succ->bq,mem_cons->bE,not_mem_nil->bF,getElem?_toArray->bG,getElem?_cons_zero->bH,setIfInBounds_toArray->bI,getElem?_append_left->bK,mem_of_getElem?->bM,getElem?_append_right->bN,all_eq_true->bO
open Go.Region renaming wanted->aY
open Go.World renaming cell?->bh,block_lt_of_cell?->bm,size_alloc->bA
variable{v a b e h i k l:Nat}{m o p t A:Y}{B C H Q:z}{R:Option ae}
namespace Go.Proofs.YtldeiiffabfmeaaGreatDoor
section
open Go.Conc Go.ConcN Go.RowKit Go.Conc.Lib Go.ConcR.Gen Go.ConcN.Gen Go.Rel
open Go.ConcR(KK wgBlock WgAt stA smA rd wr mk Payload DC0 ofEvent_cell)
noncomputable def o6:Oper:=((opsOf r6)[0]?).getD default
def Ch:(opsOf r6)[0]?=I o6/\o6.op=aQ {callee:=.value<|aU 130,args:=#[ao 6,.const<|L O 1],argTypes:=#[224,3]}/\o6.dst=I 19/\o6.guard=J:=⟨rfl,rfl,rfl,rfl⟩
noncomputable def o9:Oper:=((opsOf r9)[0]?).getD default
def Dg:(opsOf r9)[0]?=I o9/\o9.op=aQ {callee:=.value<|aU 136,args:=#[ao 6],argTypes:=#[224]}/\o9.dst=I 22/\o9.guard=J/\(opsOf r9).size=1:=⟨rfl,rfl,rfl,rfl,rfl⟩
noncomputable def yZ:Oper:=((opsOf r7)[0]?).getD default
noncomputable def Ak:Oper:=((opsOf r7)[1]?).getD default
def Cd:(opsOf r7)[0]?=I yZ/\yZ.op=.makeFunc (.func 131) #[] #[ao 6,ao 2,ao 8,ao 5,ao 7]/\yZ.dst=I 20/\yZ.guard=J:=⟨rfl,rfl,rfl,rfl⟩
def Aq:(opsOf r7)[1]?=I Ak/\Ak.op=.go {callee:=.value<|ao 20,args:=#[],argTypes:=#[]}/\Ak.dst=J/\Ak.guard=J/\(opsOf r7).size=2:=⟨rfl,rfl,rfl,rfl,rfl⟩
section
variable{Wg:Nat}{fb:au}{T:Array Y}{D:List Deferred}{ba:List au}{K:List aK}
def Z1(hk:fb.kind≠.early)(d:T[6]?=I (V<|I ⟨Wg,0,J⟩))(w:z)(hF:WgLive 224 Wg w):Nm Z 224 Wg (λg _=>g=G (fb.at ⟨T.setIfInBounds 19<|aq #[],D⟩<|y (opsOf r6) []::K) ba) (G (fb.at ⟨T,D⟩<|y (opsOf r6) [0]::K) ba) w:=by
 have e:(#[ao 6,.const<|L O 1]).map (⟨T,D⟩:Act).eval=#[V<|I ⟨Wg,0,J⟩,L O 1]:=by simp[aE,aF,d]
 refine⟨13,Goes.step rfl λa b=>goes_call Ch.1 (by simp[aY,Ch.2.2.2]) hk Ch.2.1 bC (nm_add vA) rfl ⟨⟨rfl,rfl⟩,?_⟩⟩;rw[e,<-enter_at _ bC rfl];refine add1 (mT:=0) FI (λw _=>?_) a<|b hF;exactλc _=>by rw[Ch.1];show G (fb.at ((⟨T,D⟩:Act).put o6.dst _) _) _=_;rw[Ch.2.2.1];rfl
def Ro(hk:fb.kind≠.early)(e:T[6]?=I (V<|I ⟨Wg,0,J⟩))(w:z)(hF:WgLive 224 Wg w):lU Z 224 Wg (qv Z .disable<|lU Z 224 Wg<|uJ vA Wg (fb.at ⟨T,D⟩<|y (opsOf r9) [0]::K) ba) (G (fb.at ⟨T,D⟩<|y (opsOf r9) [0]::K) ba) w:=by
 have d:(#[ao 6]).map (⟨T,D⟩:Act).eval=#[V<|I ⟨Wg,0,J⟩]:=by simp[aE,aF,e]
 obtain⟨m,c⟩:∃m,∀a,WgLive 224 Wg a->Goes Z aj (RA 224 Wg) DC0 (qv Z .disable<|lU Z 224 Wg<|uJ vA Wg (fb.at ⟨T,D⟩<|y (opsOf r9) [0]::K) ba) m (G (aG Z 136 #[V<|I ⟨Wg,0,J⟩] .normal)<|fb.at ⟨T,D⟩ (y (opsOf r9) (0::[])::K)::ba) a:=⟨10,λa h=>afZ FI a h⟩;refine⟨m+1,Goes.step rfl λa b=>goes_call Dg.1 (by simp[aY,Dg.2.2.2.1]) hk Dg.2.1 bD (nm_wait vA) rfl ⟨⟨rfl,rfl⟩,?_⟩⟩;rw[d,<-enter_at _ bD rfl];exact c a<|b hF
def agL(g:bn)(w:z)(h:uJ vA Wg (fb.at ⟨T,D⟩<|y (opsOf r9) (0::[])::K) ba g w):lU Z 224 Wg (FB Z 224 Wg (uJ vA Wg (fb.at ⟨T,D⟩<|y (opsOf r9) (0::[])::K) ba) λg _=>g=G (fb.at ⟨T.setIfInBounds 22<|aq #[],D⟩<|y (opsOf r9) []::K) ba) g w:=ZL (mT:=0) FI (λw _ a _=>by rw[Dg.1];show G (fb.at ((⟨T,D⟩:Act).put o9.dst _) _) _=_;rw[Dg.2.2.1];rfl) g w h
def xh(d c a b e:Y):Y:=.func (.func 131) #[] #[d,c,a,b,e]
def ago(b:T[6]?=I m)(e:T[2]?=I o)(c:T[8]?=I p)(a:T[5]?=I t)(d:T[7]?=I A)(w:z):(execOp (⟨T,D⟩:Act).eval yZ).run Z w=q (ar<|xh m o p t A) w/\(execOp (⟨T,D⟩:Act).eval yZ).events Z w #[]=#[]:=by
 have e6:(⟨T,D⟩:Act).eval (ao 6)=m:=by simp[aE,aF,b]
 have e2:(⟨T,D⟩:Act).eval (ao 2)=o:=by simp[aE,aF,e]
 have g:(⟨T,D⟩:Act).eval (ao 8)=p:=by simp[aE,aF,c]
 have e5:(⟨T,D⟩:Act).eval (ao 5)=t:=by simp[aE,aF,a]
 have f:(⟨T,D⟩:Act).eval (ao 7)=A:=by simp[aE,aF,d]
 constructor;.unfold execOp;simp only[Cd.2.1];simp[go_sem,b,e,c,a,d,xh]
 .unfold execOp;simp only[Cd.2.1];simp[go_sem,b,e,c,a,d]
def agc(hk:fb.kind≠.early)(f:T[6]?=I m)(k:T[2]?=I o)(i:T[8]?=I p)(h:T[5]?=I t)(j:T[7]?=I A)(w:z):lU Z 224 Wg (λg _=>g=G (fb.at ⟨T.setIfInBounds 20<|xh m o p t A,D⟩<|y (opsOf r7) [1]::K) ba) (G (fb.at ⟨T,D⟩<|y (opsOf r6) []::an r7::K) ba) w:=by refine⟨3,?_⟩;rw[aea];refine Goes.step rfl λc _=>?_;rw[stepG_region_end];refine⟨⟨rfl,rfl⟩,Goes.step rfl λe _=>?_⟩;rw[stepG_region];refine⟨⟨rfl,rfl⟩,Goes.step rfl λa _=>?_⟩;have b:=ago (D:=D) f k i h j a;rw[Aq.2.2.2.2];show(stepG Z aj (G (fb.at ⟨T,D⟩<|y (opsOf r7) (0::[1])::K) ba) _).goes _;rw[stepG_value Cd.1 (by simp[aY,Cd.2.2.2]) hk b.1];unfold listed;rw[b.2,seen_none];refine⟨⟨rfl,rfl⟩,λd _=>?_⟩;show G (fb.at ((⟨T,D⟩:Act).put yZ.dst _) _) _=_;rw[Cd.2.2.1];rfl
def WM(hk:fb.kind≠.early)(a:T[20]?=I (xh m o p t A))(w:z):stepG Z aj (G (fb.at ⟨T,D⟩<|y (opsOf r7) [1]::K) ba) w=.spawn (G (fb.at ⟨T,D⟩<|y (opsOf r7) []::K) ba) (born Z<|call131 m o p t A) w #[]:=by
 have c:(⟨T,D⟩:Act).eval (ao 20)=xh m o p t A:=by simp[aE,aF,a]
 have d:(execOp (⟨T,D⟩:Act).eval Ak).run Z w=q (.spawn<|call131 m o p t A) w:=by unfold execOp;simp only[Aq.2.1];simp[go_sem,resolve,a,xh,call131]
 have b:(execOp (⟨T,D⟩:Act).eval Ak).events Z w #[]=#[]:=by unfold execOp;simp only[Aq.2.1];simp[go_sem,resolve,a,xh]
 rw[stepG_spawn Aq.1 (by simp[aY,Aq.2.2.2.1]) hk d rfl];unfold listed;rw[b,seen_none,Aq.2.2.1];rfl
end
end
end Go.Proofs.YtldeiiffabfmeaaGreatDoor
namespace Go.Rel
section
variable{ok:iO}{ρ ρ1:iI}
mutual theorem iH.narrow(hl:ρ.le ρ1)(hf:∀{a b b'},ρ1 a b->ρ1 a b'->b=b')(hh:¬ok.kU):∀{v v'' v':Y},iH ok ρ1 v v''->iH ok ρ v v'->iH ok ρ v v''|_,_,_,.bool b,_=>.bool b|_,_,_,.int k n,_=>.int k n|_,_,_,.string s,_=>.string s|_,_,_,.od,_=>.od|_,_,_,.ptr h1,.ptr h=>.ptr (h1.shrink hl hf h)|_,_,_,.mz n c,_=>.mz n c|_,_,_,.slice h1 n c,.slice h _ _=>.slice (h1.shrink hl hf h) n c|_,_,_,.slice h1 _ _,.dead _=>.dead _|_,_,_,.dead a,_=>.dead a|_,_,_,.oy,_=>.oy|_,_,_,.map h1,.map h=>.map (by have:=hf (hl _ _ h) h1;exact this▸h)|_,_,_,.map h1,.pW hx _=>absurd hx hh|_,_,_,.func f1 hx hy,.func hf' hx' hy'=>.func hf' (jf.narrow hl hf hh hx hx') (jf.narrow hl hf hh hy hy')|_,_,_,.jP h,_=>.jP h|_,_,_,.nilIface,_=>.nilIface|_,_,_,.agg hx,.agg hx'=>.agg (jf.narrow hl hf hh hx hx')|_,_,_,.tuple hx,.tuple hx'=>.tuple (jf.narrow hl hf hh hx hx')|_,_,_,.pW hx r,_=>absurd hx hh|_,_,_,.iface t h hn,_=>.iface t h hn|_,_,_,.tag n et e h,_=>.tag n et e h theorem jf.narrow(hl:ρ.le ρ1)(hf:∀{a b b'},ρ1 a b->ρ1 a b'->b=b')(hh:¬ok.kU):∀{v v'' v':List Y},jf ok ρ1 v v''->jf ok ρ v v'->jf ok ρ v v''|_,_,_,.nil,_=>.nil|_,_,_,.cons h hs,.cons h' hs'=>.cons (iH.narrow hl hf hh h h') (jf.narrow hl hf hh hs hs')end
def kI.narrow(e:ρ.le ρ1)(f:∀{a b j},ρ1 a b->ρ1 a j->b=j)(i:¬ok.kU){x c g:List MapEntry}(d:kI ok ρ1 x c)(h:kI ok ρ x g):kI ok ρ x c:=by induction d generalizing g with|nil=>exact .nil|cons d _ k=>cases h with|cons h hs=>exact .cons ⟨d.key.narrow e f i h.key,d.val.narrow e f i h.val,d.born⟩<|k hs
def ni.narrow(f:ρ.le ρ1)(j:∀{a b m},ρ1 a b->ρ1 a m->b=m)(k:¬ok.kU){o e p:Obj}(n:ni ok ρ1 o e)(h:ni ok ρ o p):ni ok ρ o e:=by cases n with|cells g t fr=>(cases h with|cells d _ _=>exact .cells (jf.narrow f j k g d) t fr)|map g c=>(cases h with|map d _=>exact .map (g.narrow f j k d) c)|number r l=>cases h with|number i _=>exact .number (r.shrink f j i) l
def jz.narrow(g:ρ.le ρ1)(e:¬ok.kU){wh w:z}(c:jz ok ρ1 B w)(a:jz ok ρ wh C)(h:∀b,b<wh.heap.size->B.heap[b]?=wh.heap[b]?):jz ok ρ wh w:=by refine⟨a.inj,⟨a.gs.1,c.gs.2⟩,λx=>absurd x e,λ{b l}d=>?_,c.out⟩;obtain⟨o,m,e1,e2,e3⟩:=c.obj<|g _ _ d;obtain⟨p,k,f,j,i⟩:=a.obj d;rw[h b (a.lt d).1,f]at e1;cases e1;exact⟨_,_,f,e2,e3.narrow g c.inj.fn e i⟩
end
end Go.Rel
namespace Go.Proofs.YtldeiiffabfmeaaGreatDoor
section
open Go.Conc Go.ConcN Go.RowKit Go.Conc.Lib Go.ConcR.Gen Go.ConcN.Gen Go.Rel
open Go.ConcR(KK wgBlock WgAt stA smA rd wr mk Payload DC0 ofEvent_cell)
structure Ph where
 ok:iO
 okW:iO
 Wg:Nat
 C:Nat
 R:Nat
 n:Nat
 n0:Nat
 N0:Nat
 w1:z
 Still:Nat->Prop
 Old:Loc->Prop
 RS:Nat->Array Y->z->Prop
 jl:iI
 wh:z
 pa:ae
 pb:Nat
 x0:Array Y
 t0:aD
noncomputable def Ph.J(X:Ph):mh:=uM X.Wg X.C X.R X.n X.n0 X.N0 X.N0 X.w1 X.Still X.Old X.okW X.RS
def Ph.kP(X:Ph):iO:=sX X.ok X.Wg X.R X.n
def Ph.qo(X:Ph):iI:=uh X.jl X.wh.heap.size X.pb X.C
def Ph.gP(X:Ph):z:=lD X.wh X.pa
def Ph.N(X:Ph):Nat:=X.wh.heap.size
structure Ph.Ok(X:Ph):Prop where
 b0:tR X.ok
 bW:E8 X.okW
 mZ:∀j,j<=X.n->qV Z X.J j
 afK:∃w0,jz X.kP X.qo X.gP w0
 WR:oV X.kP X.qo
 tags:X.kP.tags=X.okW.tags
 jX:X.kP.jX=X.okW.jX
 adZ:¬X.okW.kU
 KJ:X.kP.gs=X.okW.gs
 Gu:X.kP.old=X.okW.old
 rs:∀i x w τ d,X.RS i x w->X.RS i x (w.re τ d)
 GX:∃fr0,X.ok.old.heap[0]?=some (S X.x0 X.t0 fr0)/\fr0.2<=X.x0.size
 x0:∀σ:iI,iV X.okW σ X.x0 X.x0
 BO:X.n<2147483647
 pa:∃x,X.jl X.pa.block x
def Al(k:Nat):Y:=aV 1000000<|L O k
noncomputable def K7:List aK:=.inBlock 1::an r8::KL
def pS(X:Ph)(rd:Y)(i:Nat)(f:Nat->Y)(k:List aK):au:=(base 109).at ⟨sT (V<|I X.pa) rd (V<|I ⟨X.N,0,J⟩) (V<|I ⟨X.N+2,0,J⟩) (Al 0) X.n i f,[]⟩ k
def LF(X:Ph)(f:Nat->Y):Prop:=∀k,∃u,iH X.ok X.jl (f k) u
def Ph.lift{X:Ph}(B0:tR X.ok)(h:∃u,iH X.ok X.jl m u):∃u,iH X.kP X.qo m u:=let⟨u,a⟩:=h;⟨u,a.lift (Bw B0) λ_ _ h=>az h⟩
def Px{f:au}{k:List aK}(a:f.mode=.run)(c:f.todo=k)(b:f.roundOf=J)(hd:f.defers=[]):f=f.at ⟨f.tmps,[]⟩ k:=by obtain⟨fn,tmps,todo,defers,mode,kind,round⟩:=f;simp only at a c b hd;subst a c b hd;rfl
section
variable{X:Ph}{j rb ro c:Nat}{ρ0:iI}{ba:List au}{s:Sn}{f:au}{fv:Nat->Y}{ent:qM}
def R3(H:X.Ok)(hj:j<X.n)(hw:C4 X.okW X.n X.RS j (V<|I ⟨X.N,0,J⟩) (V<|I ⟨X.N+4,0,J⟩) (V<|I ⟨X.N+2,0,J⟩) (V<|I ⟨X.N+3,0,J⟩)<|tP (ll X.gP j ent) X.x0 X.t0)(ac:X.qo.le ρ0)(hf:LF X fv)(ap:∃x,X.jl rb x)(bU:∃u,iH X.ok X.jl (U ent.ka ent.kn ent.kc) u)(h:qm X.kP Z X.J j ρ0 (ll X.gP j ent) 0 nj ba (pS X (U (I ⟨rb,ro,J⟩) X.n c) j (fR fv rb ro j (X.N+3) ent)<|y (opsOf r6) [0]::K6) s f)(sl:Option<|Nat×Nat):∃s' bp f' aw,ki Z s sl s' bp/\qm X.kP Z X.J (j+1) X.qo X.gP 0 nj ba (pS X (U (I ⟨rb,ro,J⟩) X.n c) j aw<|y (opsOf r7) []::K7) s' f'/\LF X aw:=by
 have A:=H.mZ j (by omega);have a5:wX≠CTag.blk:=by simp
 have hT:=h.rel.tmps;have al:f.tmps.size=24:=hT.size.symm;have cm:f=f.at ⟨f.tmps,[]⟩ (y (opsOf r6) [0]::K6):=Px h.rel.mode h.rel.todo h.rel.tA h.plain.defers;have aa:f.kind≠.early:=h.rel.early;obtain⟨u6,g6,v6⟩:=sZ hT (k:=6) (v:=Al 0) rfl;have a4:X.kP.jX=1000000:=H.b0.jX;have e6:u6=V (I ⟨X.Wg,0,J⟩):=by have:=Fh (k:=0) (by rw[a4];exact v6);rw[this];rfl
 obtain⟨_,g2,v2⟩:=sZ hT (k:=2) (v:=V<|I ⟨X.N,0,J⟩) rfl;obtain⟨_,g5,v5⟩:=sZ hT (k:=5) (v:=V<|I ⟨X.N+2,0,J⟩) rfl;obtain⟨_,g7,v7⟩:=sZ hT (k:=7) (v:=V<|I ⟨X.N+3,0,J⟩) rfl;obtain⟨_,g8,v8⟩:=sZ hT (k:=8) (v:=V<|I ⟨X.N+4,0,J⟩) rfl;subst e6;obtain⟨⟨r,_,_⟩,rfl,r2,rfl,rfl⟩:=we v2;obtain⟨⟨C',_,_⟩,rfl,aO,rfl,rfl⟩:=we v5;obtain⟨⟨i',_,_⟩,rfl,a3,rfl,rfl⟩:=we v7;obtain⟨⟨o',_,_⟩,rfl,a6,rfl,rfl⟩:=we v8;simp only at r2 aO a3 a6;have aR:=h.zw;rw[cm]at aR;obtain⟨s1,cd,a1,q1,c1,b1,p1⟩:=Zg A h.wR aR (Z1 (K:=K6) aa g6 s.w h.wR.live) sl;obtain rfl:=p1 s1.w c1.live;have t2:(f.tmps.setIfInBounds 19<|aq #[])[2]?=I (V<|I ⟨r,0,J⟩):=by grind
 have t5:(f.tmps.setIfInBounds 19<|aq #[])[5]?=I (V<|I ⟨C',0,J⟩):=by grind
 have t6:(f.tmps.setIfInBounds 19<|aq #[])[6]?=I (V<|I ⟨X.Wg,0,J⟩):=by grind
 have t7:(f.tmps.setIfInBounds 19<|aq #[])[7]?=I (V<|I ⟨i',0,J⟩):=by grind
 have t8:(f.tmps.setIfInBounds 19<|aq #[])[8]?=I (V<|I ⟨o',0,J⟩):=by grind
 obtain⟨s2,bV,a2,q2,c2,b2,p2,_⟩:=qZ A a5 (agc (Wg:=X.Wg) (D:=[]) (K:=K7) (ba:=ba) aa t6 t2 t8 t5 t7 s1.w) c1 b1 cd;obtain rfl:=p2 s2.w c2.live;obtain⟨s3,cz,d3,av,q3,c3,b3,_,bc⟩:=jr (ok:=X.kP) (ρ0:=ρ0) (wh0:=ll X.gP j ent) (d0:=0) (a:=G _ ba) A rfl a5 s2 ⟨c2,b2⟩ bV;have aT:((f.tmps.setIfInBounds 19<|aq #[]).setIfInBounds 20<|xh (V<|I ⟨X.Wg,0,J⟩) (V<|I ⟨r,0,J⟩) (V<|I ⟨o',0,J⟩) (V<|I ⟨C',0,J⟩)<|V<|I ⟨i',0,J⟩)[20]?=I (xh (V<|I ⟨X.Wg,0,J⟩) (V<|I ⟨r,0,J⟩) (V<|I ⟨o',0,J⟩) (V<|I ⟨C',0,J⟩)<|V<|I ⟨i',0,J⟩):=by simp[al]
 have b8:=WM (D:=[]) (K:=K7) (ba:=ba) aa aT<|s3.w.at d3;have K:Jw X.kP Z X.J j ρ0 X.qo X.gP (s3.w.at d3) ⟨ρ0.on<|nI<|ll X.gP j ent,[zN.at ⟨ug ax (V<|I ⟨X.N,0,J⟩) (V<|I ⟨X.N+4,0,J⟩) (V<|I ⟨X.N+2,0,J⟩)<|V<|I ⟨X.N+3,0,J⟩,[]⟩ [an Dc]],tP (ll X.gP j ent) X.x0 X.t0,(s3.w.at d3).heap.size⟩ 8<|born Z<|call131 (V<|I ⟨X.Wg,0,J⟩) (V<|I ⟨r,0,J⟩) (V<|I ⟨o',0,J⟩) (V<|I ⟨C',0,J⟩)<|V<|I ⟨i',0,J⟩:=by have m3:=(c3.at d3).cy.mem;obtain⟨br,E,a0⟩:=H.GX;have ad:0<X.kP.old.heap.size:=(aZ.1 E).1;have aL:(s3.w.at d3).heap[0]?=I (S X.x0 X.t0 br):=(m3.iR 0 ad).trans E;(have a7:0<X.kP.gs:=by show 0<X.ok.gs;rw[H.b0.gs];decide);have T:ρ0 0 0:=m3.uW H.b0.kV 0 a7;(have W:nI (ll X.gP j ent) 0=aj:=by obtain⟨o,o',e1,e2,e3⟩:=m3.ln.obj T;rw[aL]at e2;cases e2;cases e3 with|cells=>exact BP.2 ⟨_,_,_,e1⟩);have Q:=Vu (ok2:=X.okW) m3.ln H.tags H.jX ⟨H.b0.kU,H.adZ⟩ H.KJ H.Gu a7 aL a0<|H.x0 _;(have cu:(ll X.gP j ent).heap.size=X.gP.heap.size+2:=by show((X.gP.heap.push _).push _).size=_;simp);(have p:∀b,b<X.gP.heap.size->(ll X.gP j ent).heap[b]?=X.gP.heap[b]?:=λb R=>by show((X.gP.heap.push _).push _)[b]?=_;grind);have cv:X.gP.heap.size=X.N+3:=vk;obtain⟨w0,bo⟩:=H.afK;have am:=jz.narrow (ok:=X.kP) ac H.b0.kU m3.ln bo p;have m:∀{b:Nat}{x:Array Y}{t:aD}{fr:Nat×Nat},(ll X.gP j ent).heap[b]?=I (S x t fr)->nI (ll X.gP j ent) b=aj:=λe=>BP.2 ⟨_,_,_,e⟩;have rN:nI (ll X.gP j ent) X.N=aj:=m (by rw[p _<|by omega];exact BC);have co:nI (ll X.gP j ent) (X.N+2)=aj:=m (by rw[p _<|by omega];exact CO);have cn:nI (ll X.gP j ent) (X.N+3)=aj:=m (x:=#[L O j]) (t:=3) (fr:=(0,0)) (by show((X.gP.heap.push _).push _)[_]?=_;grind);have ce:nI (ll X.gP j ent) (X.N+4)=aj:=m (x:=ent.cells) (t:=173) (fr:=(0,0)) (by show((X.gP.heap.push _).push _)[_]?=_;grind);(have B:iV X.okW (ρ0.on<|nI<|ll X.gP j ent) (ug ax (V<|I ⟨X.N,0,J⟩) (V<|I ⟨X.N+4,0,J⟩) (V<|I ⟨X.N+2,0,J⟩)<|V<|I ⟨X.N+3,0,J⟩)<|ug (V<|I ⟨X.Wg,0,J⟩) (V<|I ⟨r,0,J⟩) (V<|I ⟨o',0,J⟩) (V<|I ⟨C',0,J⟩)<|V<|I ⟨i',0,J⟩:=by have u:=iH.undef (ok:=X.okW) (ρ:=ρ0.on<|nI<|ll X.gP j ent);exact .cons (.jP trivial)<|.cons (.ptr ⟨⟨rN,r2⟩,rfl,rfl⟩)<|.cons (.ptr ⟨⟨ce,a6⟩,rfl,rfl⟩)<|.cons (.ptr ⟨⟨co,aO⟩,rfl,rfl⟩)<|.cons (.ptr ⟨⟨cn,a3⟩,rfl,rfl⟩)<|.cons u<|.cons u<|.cons u<|.cons u<|.cons u<|.cons u<|.cons u<|.cons u<|.cons u<|.cons u<|.cons u<|.cons u<|.cons u<|.cons u<|.cons u<|.cons u<|.cons u<|.cons u<|.cons u<|.cons u<|.cons u<|.cons u<|.cons u<|.cons u<|.cons u<|.cons u .nil);(have aB:oV X.okW<|ρ0.on<|nI<|ll X.gP j ent:=by intro _ g hg;(have:g=0:=by have bQ:g<X.okW.gs:=hg;rw[<-H.KJ]at bQ;have e:X.kP.gs=1:=H.b0.gs;omega);subst this;exact⟨W,T⟩);refine⟨rfl,Q,aB,λb b' R=>⟨b,R.2⟩,λb b' R=>Rw R.1,am,H.WR,λb b' R=>⟨b,ac _ _ R⟩,λb b' R hx=>?_,?_⟩;(.obtain⟨x,t,fr,e⟩:=hx;obtain⟨o,o2,e1,e2,e3⟩:=am.obj R;rw[e]at e2;cases e2;cases e3 with|cells=>exact CY ⟨_,_,_,e1⟩);.refine .pre (ZQ H.bW H.rs hw ⟨_,_,_,B,Q,aB⟩) ?_;refine OQ (λ_ _ h=>h) (λ_ _ _ h=>h) (λg w cx hg _=>?_) 8 _ _<|Rb X.Wg _ _ _ _ _;refine⟨_,[],hg,.one ⟨rfl,rfl,?_,B,rfl,rfl,rfl,rfl,rfl,show CallKind.deferred≠CallKind.early by decide⟩,rfl,rfl⟩;intro it P;simp only[Frame.at,List.mem_singleton]at P;subst P;trivial
 have l:∀k,k≠7->k≠8->∃u,iH X.ok X.jl (fR fv rb ro j (X.N+3) ent k) u:=by intro k k7 k8;simp only[fR,mq,k7,k8,if_false];split;(.obtain⟨u,hu⟩:=bU;exact⟨aI ⟨[L O ent.iz,M ent.read,u,M ent.b0,M ent.b1,M ent.b2,M ent.b3]⟩,.agg<|.cons (.int _ _)<|.cons (.bool _)<|.cons hu<|.cons (.bool _)<|.cons (.bool _)<|.cons (.bool _)<|.cons (.bool _) .nil⟩);.split;(.obtain⟨x,hx⟩:=ap;exact⟨V<|I ⟨x,ro+j*7,J⟩,.ptr ⟨hx,rfl,rfl⟩⟩);.split;(.exact⟨_,.int _ _⟩);.split;(.exact⟨_,.bool _⟩);.exact hf k
 obtain⟨s4,q4,c4,b4,_⟩:=goC (H.mZ (j+1)<|by omega).stat c3 b3 bc b8 K;refine⟨s4,av,_,λk=>if k=7\/k=8\/k=20 then ax else if k=19 then aq #[]else fR fv rb ro j (X.N+3) ent k,(q1.trans q2).trans<|q3.trans q4,⟨c4,b4,?_,⟨rfl,h.plain.kind⟩⟩,?_⟩;.refine⟨h.rel.fn,rfl,?_,?_,rfl,rfl,rfl,rfl,rfl,h.rel.early⟩;(.intro it P;simp only[pS,Frame.at,K7,KL,bE,bF,or_false]at P;rcases P with rfl|rfl|rfl|rfl|rfl|rfl<;>trivial);.have i:∀{v v':Y},iH X.kP ρ0 v v'->(∃u,iH X.kP X.qo v u)->iH X.kP X.qo v v':=λh⟨u,hu⟩=>iH.narrow (ok:=X.kP) ac c3.cy.mem.ln.inj.fn H.b0.kU h hu;(have aS:∃u,iH X.kP X.qo (U (I ⟨rb,ro,J⟩) X.n c) u:=by obtain⟨x,hx⟩:=ap;exact⟨U (I ⟨x,ro,J⟩) X.n c,iH.slice (a:=⟨rb,ro,J⟩) (a':=⟨x,ro,J⟩) ⟨az hx,rfl,rfl⟩ _ _⟩);obtain⟨v0,v1,v2,v3,v4,v5,v6,v7,v8,v9,cs,bb,bi,cj,ct,bT,cg,ck,ca,a8,cl,cb,bY,be,eT⟩:=IJ f.tmps al;have aC:=hT;rw[eT]at aC g7 g8;simp only[bG,bq,bH,bu]at g7 g8;subst g7 g8;show iV X.kP X.qo _ ((f.tmps.setIfInBounds 19<|aq #[]).setIfInBounds 20 _);rw[eT];have d:jf X.kP ρ0 (sT (V<|I X.pa) (U (I ⟨rb,ro,J⟩) X.n c) (V<|I ⟨X.N,0,J⟩) (V<|I ⟨X.N+2,0,J⟩) (Al 0) X.n j<|fR fv rb ro j (X.N+3) ent).toList [v0,v1,v2,v3,v4,v5,v6,V<|I ⟨i',0,J⟩,V<|I ⟨o',0,J⟩,v9,cs,bb,bi,cj,ct,bT,cg,ck,ca,a8,cl,cb,bY,be]:=aC;simp only[sT]at d;obtain⟨h0,d⟩:=jA d;obtain⟨h1,d⟩:=jA d;obtain⟨h2,d⟩:=jA d;obtain⟨h3,d⟩:=jA d;obtain⟨h4,d⟩:=jA d;obtain⟨h5,d⟩:=jA d;obtain⟨h6,d⟩:=jA d;obtain⟨h7,d⟩:=jA d;obtain⟨h8,d⟩:=jA d;obtain⟨h9,d⟩:=jA d;obtain⟨a9,d⟩:=jA d;obtain⟨bv,d⟩:=jA d;obtain⟨bx,d⟩:=jA d;obtain⟨bf,d⟩:=jA d;obtain⟨bt,d⟩:=jA d;obtain⟨cr,d⟩:=jA d;obtain⟨bR,d⟩:=jA d;obtain⟨b9,d⟩:=jA d;obtain⟨ci,d⟩:=jA d;obtain⟨cA,d⟩:=jA d;obtain⟨aT,d⟩:=jA d;obtain⟨cc,d⟩:=jA d;obtain⟨bX,d⟩:=jA d;obtain⟨cf,d⟩:=jA d;simp only[pS,Frame.at,sT,bI];exact(.cons (i h0<|by obtain⟨x,hx⟩:=H.pa;exact⟨V<|I ⟨x,X.pa.off,X.pa.spot⟩,iH.ptr (a':=⟨x,X.pa.off,X.pa.spot⟩) ⟨az hx,rfl,rfl⟩⟩)<|.cons (i h1 aS)<|.cons (i h2 ⟨V<|I ⟨X.pb,0,J⟩,.ptr ⟨ay<|az ⟨rfl,rfl⟩,rfl,rfl⟩⟩)<|.cons (i h3<|Ph.lift H.b0<|l 3 (by decide)<|by decide)<|.cons (i h4<|Ph.lift H.b0<|l 4 (by decide)<|by decide)<|.cons (i h5 ⟨V<|I ⟨X.C,0,J⟩,.ptr ⟨ay<|ay ⟨rfl,rfl⟩,rfl,rfl⟩⟩)<|.cons (i h6 ⟨_,iH.tag (ok:=X.kP) 0 a4.symm rfl trivial⟩)<|.cons (.jP trivial)<|.cons (.jP trivial)<|.cons (i h9<|Ph.lift H.b0<|l 9 (by decide)<|by decide)<|.cons (i a9<|Ph.lift H.b0<|l 10 (by decide)<|by decide)<|.cons (i bv<|Ph.lift H.b0<|l 11 (by decide)<|by decide)<|.cons (i bx aS)<|.cons (i bf ⟨_,.int _ _⟩)<|.cons (i bt ⟨_,.int _ _⟩)<|.cons (i cr<|Ph.lift H.b0<|l 15 (by decide)<|by decide)<|.cons (i bR<|Ph.lift H.b0<|l 16 (by decide)<|by decide)<|.cons (i b9<|Ph.lift H.b0<|l 17 (by decide)<|by decide)<|.cons (i ci<|Ph.lift H.b0<|l 18 (by decide)<|by decide)<|.cons (.tuple .nil)<|.cons (.jP trivial)<|.cons (i cc<|Ph.lift H.b0<|l 21 (by decide)<|by decide)<|.cons (i bX<|Ph.lift H.b0<|l 22 (by decide)<|by decide)<|.cons (i cf<|Ph.lift H.b0<|l 23 (by decide)<|by decide) .nil)
 .intro k;show∃u,iH X.ok X.jl (if k=7\/k=8\/k=20 then ax else if k=19 then aq #[]else fR fv rb ro j (X.N+3) ent k) u;split;(.exact⟨ax,.jP trivial⟩);.split;(.exact⟨_,.undef⟩);grind
end
section
variable{X:Ph}{j:Nat}{ρ0:iI}{ba:List au}{s:Sn}{f:au}{fv:Nat->Y}{rd:Y}
def Fb(H:X.Ok):Fits X.kP Z:=We H.b0.fits
def Dr(H:X.Ok):oq X.kP Z:=Qz H.b0.kg
def LJ{k:Nat}(h:LF X fv)(a:∃u,iH X.ok X.jl m u):LF X<|mq fv k m:=by
 intro i;unfold mq;split;.exact a
 .exact h i
def Ts(H:X.Ok)(hj:j<X.n)(l:X.qo.le ρ0)(N:LF X fv)(h:qm X.kP Z X.J (j+1) ρ0 X.gP 0 nj ba (pS X rd j fv<|y (opsOf r7) []::K7) s f)(sl:Option<|Nat×Nat):∃u r b f' c,ki Z s sl u r/\qm X.kP Z X.J (j+1) b X.gP 0 nj ba (pS X rd (j+1) c<|an lb::KL) u f'/\X.qo.le b/\LF X c:=by
 have A:=H.mZ (j+1) (by omega);have g:=Fb H;have C:=Dr H;have B:=C.jS;have ne:nj≠CTag.blk:=by simp
 have E:∃fn,Tryz.prog.funcs[(base 109).fn]?=I fn:=⟨_,aJ⟩;have K:=blank (ok:=X.kP) H.b0.jX;have T:=DG X.kP.gs;have:=H.BO;obtain⟨s1,t,v,f1,q1,W,l1⟩:=oZ A g B ne h (fr1:=pS X rd j fv K7) rfl (lz trivial) sl;obtain⟨s2,m,aa,f2,q2,h2,l2⟩:=oZ A g B ne W rfl (lz trivial) t;obtain⟨s3,p,R,f3,a3,D,h3,l3,G⟩:=Da A g C ne (pO K T.2.2.1) E (λτ d=>iM (Xw _ _ _ _ _ X.n j fv (X.gP.re τ d)<|by omega) λe a w o=>⟨o.1,o.2.1,o.2.2⟩) h2 m;subst G;obtain⟨s4,i,k,f4,P,Q,x⟩:=oZ A g B ne h3 rfl (lz trivial) p;exact⟨s4,i,k,f4,_,(q1.trans q2).trans<|D.trans P,Q,l.trans<|(l1.trans l2).trans<|l3.trans x,LJ N ⟨_,.int _ _⟩⟩
noncomputable def K9:List aK:=[an<|.seq vW .ret]
def W4(H:X.Ok)(x:X.qo.le ρ0)(hf:LF X fv)(h:qm X.kP Z X.J X.n ρ0 X.gP 0 nj ba (pS X rd X.n fv<|an lb::KL) s f)(sl:Option<|Nat×Nat):∃D v b f' g,ki Z s sl D v/\qm X.kP Z X.J X.n b X.gP 0 nj ba (pS X rd X.n g<|y (opsOf r9) [0]::K9) D f'/\X.qo.le b/\LF X g:=by
 have A:=H.mZ X.n<|aH _;have c:=Fb H;have C:=Dr H;have B:=C.jS;have ne:nj≠CTag.blk:=by simp
 have hb:∃fn,Tryz.prog.funcs[(base 109).fn]?=I fn:=⟨_,aJ⟩;have K:=blank (ok:=X.kP) H.b0.jX;have CB:=DG X.kP.gs;rw[MF]at h;obtain⟨s1,p,ac,f1,q1,h1,T⟩:=oZ A c B ne h rfl (lz trivial) sl;obtain⟨s2,l,E,f2,a2,q2,R,l2,x2⟩:=Da (X:=λa=>a=⟨sT (V<|I X.pa) rd (V<|I ⟨X.N,0,J⟩) (V<|I ⟨X.N+2,0,J⟩) (Al 0) X.n X.n<|mq fv 15<|M ah,[]⟩) A c C ne (pO K CB.1) hb (λτ d=>iM (Mt _ _ _ _ _ X.n X.n fv<|X.gP.re τ d) λe a w i=>⟨i.1,by rw[i.2.1];simp,i.2.2⟩) h1 p;subst x2;obtain⟨s3,m,al,f3,G,h3,l3⟩:=oZ A c B ne R (fr1:=pS X rd X.n (mq fv 15<|M ah)<|an (.cond (ao 15) .skip<|.exit 0)::an (.seq (.block 1<|.seq r5<|.seq r6 r7) r8)::KL) rfl (lz trivial) l;obtain⟨s4,r,Q,f4,q4,h4,l4⟩:=oZ A c B ne h3 (fr1:=pS X rd X.n (mq fv 15<|M ah)<|an (.exit 0)::an (.seq (.block 1<|.seq r5<|.seq r6 r7) r8)::KL) rfl (lz trivial) m;obtain⟨s5,t,aa,f5,q5,h5,P⟩:=oZ A c B ne h4 (fr1:=pS X rd X.n (mq fv 15<|M ah) [an D2]) rfl (lz trivial) r;obtain⟨s6,u,ad,f6,q6,h6,l6⟩:=oZ A c B ne h5 (fr1:=pS X rd X.n (mq fv 15<|M ah)<|an r9::K9) rfl (lz trivial) t;obtain⟨s7,o,k,f7,q7,W,l7⟩:=oZ A c B ne h6 rfl (lz trivial) u;exact⟨s7,o,k,f7,_,((q1.trans q2).trans<|G.trans q4).trans<|(q5.trans q6).trans q7,W,x.trans<|((T.trans l2).trans<|l3.trans l4).trans<|(P.trans l6).trans l7,LJ hf ⟨_,.bool _⟩⟩
end
structure Kc(X:Ph)(ra:Option ae)(rb ro:Nat)(ents:Nat->qM):Prop where
 ra:X.n≠0->ra=some ⟨rb,ro,none⟩
 at':∀i,i<X.n->xX X.gP rb (ro+i*7) (ents i)
 rb:X.n≠0->∃x,X.jl rb x
 ka:∀i,i<X.n->∃u,iH X.ok X.jl (U (ents i).ka (ents i).kn (ents i).kc) u
 vz:∀i,i<X.n->C4 X.okW X.n X.RS i (V<|some ⟨X.N,0,none⟩) (V<|some ⟨X.N+4,0,none⟩) (V<|some ⟨X.N+2,0,none⟩) (V<|some ⟨X.N+3,0,none⟩) (tP (ll X.gP i<|ents i) X.x0 X.t0)
def rounds{X:Ph}(H:X.Ok){ra:Option ae}{rb c:Nat}{i:Nat->qM}(E:Kc X ra rb v i):∀(m j:Nat),j+m=X.n->∀{ρ0:iI}{ba:List au}{s:Sn}{f:au}{fv:Nat->Y},X.qo.le ρ0->LF X fv->qm X.kP Z X.J j ρ0 X.gP 0 nj ba (pS X (U ra X.n c) j fv<|an lb::KL) s f->∀sl:Option<|Nat×Nat,∃G B b f' e,ki Z s sl G B/\qm X.kP Z X.J X.n b X.gP 0 nj ba (pS X (U ra X.n c) X.n e<|y (opsOf r9) [0]::K9) G f'/\X.qo.le b/\LF X e|0,j,hj,ρ0,ba,s,f,fv,d,A,h,sl=>by(obtain rfl:j=X.n:=by omega);exact W4 H d A h sl|m+1,j,hj,ρ0,ba,s,f,fv,d,A,h,sl=>by(have a:j<X.n:=by omega);(have k:X.n≠0:=by omega);have g:=E.ra k;rw[g]at h⊢;obtain⟨s1,l,R,f1,q1,D,l1⟩:=Qb (H.mZ j<|by omega) (Fb H) (Dr H) H.b0.jX a (E.at' j a) h sl;have w:X.gP.heap.size=X.N+3:=vk;rw[w]at D;obtain⟨s2,u,f2,ac,q2,h2,r⟩:=R3 H a (E.vz j a) (d.trans l1) A (E.rb k) (E.ka j a) D l;obtain⟨s3,C,Q,f3,aa,q3,K,W,p⟩:=Ts H a (iI.le.refl _) r h2 u;rw[<-g]at K⊢;obtain⟨T,o,t,f4,x,P,h4,l4⟩:=rounds H E m (j+1) (by omega) W p K C;exact⟨T,o,t,f4,x,(q1.trans q2).trans<|q3.trans P,h4,l4⟩
section
variable{X:Ph}{ρ0:iI}{ba:List au}{s:Sn}{f:au}{fv:Nat->Y}{ra:Option ae}{c:Nat}
def toLoop(H:X.Ok)(r:∃u,iH X.ok X.jl (U ra X.n c) u)(h:qm X.kP Z X.J 0 X.qo X.gP 0 nj ba ((base 109).at ⟨sP (V<|I X.pa) (U ra X.n c) X.n X.N,[]⟩ [an A0]) s f)(sl:Option<|Nat×Nat):∃E x b f' g,ki Z s sl E x/\qm X.kP Z X.J 0 b X.gP 0 nj ba (pS X (U ra X.n c) 0 g<|an lb::KL) E f'/\X.qo.le b/\LF X g:=by
 have A:=H.mZ 0<|bd _;have j:=Fb H;have C:=Dr H;have B:=C.jS;have ne:nj≠CTag.blk:=by simp
 have hb:∃fn,Tryz.prog.funcs[(base 109).fn]?=I fn:=⟨_,aJ⟩;have K:=blank (ok:=X.kP) H.b0.jX;have CB:=La X.kP.gs;let i:Nat->Y:=λk=>if k=3 then ak else if k=4 then U J 0 0 else if k=7 then ak else if k=8 then ak else if k=9 then U ra X.n c else if k=10 then L O X.n else if k=11 then ax else ak;obtain⟨s1,m,ac,f1,q1,h1,T⟩:=oZ A j B ne h (fr1:=(base 109).at ⟨sP (V<|I X.pa) (U ra X.n c) X.n X.N,[]⟩ [an<|.seq r3<|.block 0<|.loop lb,an D2]) rfl (lz trivial) sl;obtain⟨s2,D,aa,f2,q2,R,l2⟩:=oZ A j B ne h1 rfl (lz trivial) m;obtain⟨s3,t,W,f3,a3,q3,Q,l3,x3⟩:=Da A j C ne (pO K CB.2.2.2) hb (λτ d=>iM (afC (V<|I X.pa) (U ra X.n c) (V<|I ⟨X.N,0,J⟩) (V<|I ⟨X.N+2,0,J⟩) (Al 0) ak (U J 0 0) ak ak (U ra X.n c) (L O X.n) ax ra X.n c (X.gP.re τ d) rfl) λe a w l=>⟨l.1,l.2.1,l.2.2⟩) R D;subst x3;obtain⟨s4,p,ad,f4,q4,h4,G⟩:=oZ A j B ne Q (fr1:=pS X (U ra X.n c) 0 i [an<|.loop lb,.inBlock 0,an D2]) rfl (lz trivial) t;obtain⟨s5,v,o,f5,q5,h5,P⟩:=oZ A j B ne h4 rfl (lz trivial) p;refine⟨s5,v,o,f5,i,((q1.trans q2).trans<|q3.trans q4).trans q5,h5,((T.trans l2).trans<|l3.trans G).trans P,λk=>?_⟩;show∃u,iH X.ok X.jl (if k=3 then ak else if k=4 then U J 0 0 else if k=7 then ak else if k=8 then ak else if k=9 then U ra X.n c else if k=10 then L O X.n else if k=11 then ax else ak) u;repeat' split
 all_goals first|exact⟨_,.undef⟩|exact⟨_,.mz _ _⟩|exact r|exact⟨_,.int _ _⟩|exact⟨ax,.jP trivial⟩
def waitAll(H:X.Ok)(h:qm X.kP Z X.J X.n ρ0 X.gP 0 nj ba (pS X (U ra X.n c) X.n fv<|y (opsOf r9) [0]::K9) s f)(sl:Option<|Nat×Nat):∃(E:Nat->Gh)(j:Array bn)(p:z)(aa:Option (Nat×Nat))(B:Trace)(q':Nat->Nat),(∃N,runNT Z N (crowd s.gs s.w sl) s.t=(.next<|crowd j p aa,B))/\Leavers Z B j q'/\Past (λl=>X.Old l\/ShN X.Wg l) p.heap.size B/\j[0]?=I (G (f.at ⟨f.tmps.setIfInBounds 22<|aq #[],[]⟩<|y (opsOf r9) []::K9) ba)/\Mem X.kP X.J X.n E ρ0 X.gP p/\(∀i,i<X.n->Out X.J i (E i) p):=by
 have A:=H.mZ X.n<|aH _;have hT:=h.rel.tmps;have v:=Px h.rel.mode h.rel.todo h.rel.tA h.plain.defers;obtain⟨u6,g6,v6⟩:=sZ hT (k:=6) rfl;have T:X.kP.jX=1000000:=H.b0.jX;have e6:u6=V (I ⟨X.Wg,0,J⟩):=by have:=Fh (by rw[T];exact v6);rw[this];rfl
 subst e6;have o:=h.zw;rw[v]at o;obtain⟨s1,r,K,q1,r1,hL,hP,b1,hW,hM,hO,ad⟩:=Wf A (λg w hg=>agL g w hg) h.wR o (Ro h.rel.early g6 s.w h.wR.live) sl;obtain⟨m,hm⟩:=hW;have hG:Goes Z aj AtRel (λ_ _ es=>es=#[]) (λg w=>g=G (f.at ⟨f.tmps.setIfInBounds 22<|aq #[],[]⟩<|y (opsOf r9) []::K9) ba/\AtRel s1.w w) m K s1.w:=G5 (λa b⟨d,e⟩hl=>by subst e;exact hl) (λa b W D=>atRel_trans _ _ _ D W) (λ_=>rfl) (λg w W D=>⟨W,D⟩) m K s1.w (atRel_refl _) hm;obtain⟨N2,R,a2,w2,x,t2,q2,P,ac,b2,⟨rfl,d2,rfl⟩,Q,C⟩:=walk_beside (λ_ _ es h e he=>by grind) (m+sumTo s1.gs.size q1) m s1.gs K s1.w r s1.t q1 (aH _) b1 hL hP hG;obtain⟨N1,u⟩:=r1;exact⟨s1.E,R,s1.w.at d2,x,t2,q2,⟨N1+N2,by rw[runNT_add,u];exact P⟩,Q,C,b2,hM.at d2,hO⟩
end
def Atom:Y->Prop|M _|L _ _=>True|_=>False
def sv(b:Option Nat)(m k:Nat):Y:=U (b.map λx=>⟨x,0,J⟩) m k
def AE(c:Nat->List Y->Nat->List Y->Prop)(i:Nat)(x:Array Y)(w:z):Prop:=∃(hd:List Y)(m k:Nat)(cells:List Y)(b:Option Nat),x=(hd++[sv b m k]).toArray/\hd.length=5/\(∀v∈hd,Atom v)/\c i hd m cells/\(∀v∈cells,Atom v)/\(b=J->cells=[])/\∀a,b=I a->w.heap[a]?=I (S cells.toArray 229)/\cells≠[]
def Ke{ok:iO}{ρ:iI}(h:iH ok ρ m o)(a:Atom m):o=m:=by cases h<;>first|rfl|exact a.elim
def J0{ok:iO}{ρ:iI}:∀{l a:List Y},jf ok ρ l a->(∀v∈l,Atom v)->a=l|[],_,h,_=>by cases h;rfl|v::l,_,h,b=>by cases h with|cons h hs=>rw[Ke h<|b v<|by simp,J0 hs λu c=>b u (by simp[c])]
def OA{ok:iO}{ρ:iI}:∀{l b:List Y},jf ok ρ (l++[m]) b->(∀v∈l,Atom v)->∃a,b=l++[a]/\iH ok ρ m a|[],_,h,_=>(by cases h with|cons h hs=>cases hs;grind)|v::l,_,h,c=>by cases h with|cons h hs=>obtain⟨a,rfl,e⟩:=OA hs λu d=>c u (by simp[d]);exact⟨a,by rw[Ke h<|c v<|by simp];rfl,e⟩
def Hd{ok:iO}{ρ:iI}:∀{l:List Y},(∀v∈l,Atom v)->jf ok ρ l l|[],_=>.nil|v::l,h=>by refine .cons ?_<|Hd λu a=>h u (by simp[a]);have:=h v (by simp);cases v<;>first|exact .bool _|exact .int _ _|exact this.elim
structure RD where
 hd:List Y
 m:Nat
 k:Nat
 cells:List Y
 b:Option Nat
structure FM(Ab:Nat->List Y->Nat->List Y->Prop)(E:Nat->Gh)(R:Nat)(w:z)(i:Nat)(r:RD):Prop where
 len:r.hd.length=5
 hd:∀v∈r.hd,Atom v
 ab:Ab i r.hd r.m r.cells
 atoms:∀v∈r.cells,Atom v
 row:∀k,k<6->w.cell? ⟨R,6*i+k,none⟩=(r.hd++[sv r.b r.m r.k])[k]?
 nil:r.b=none->r.cells=[]
 blk:∀c',r.b=some c'->w.heap[c']?=some (S r.cells.toArray 229)/\r.cells≠[]/\(E i).bs<=c'/\∃c,(E i).ρ c c'
def agy{X:Ph}{T:Nat->List Y->Nat->List Y->Prop}(v:X.RS=AE T){E:Nat->Gh}{N:iI}{w:z}(Q:Mem X.kP X.J X.n E N X.gP w)(hi:i<X.n)(hO:Out X.J i (E i) w):∃r,FM T E X.R w i r:=by
 obtain⟨x,x',aa,s,P,_,j⟩:=hO;rw[v]at s;obtain⟨hd,m,k,cells,b,rfl,W,f,g,d,hn,hb⟩:=s;obtain⟨al⟩:=x';have l:=P;obtain⟨K,rfl,hs⟩:=OA l f;have c:∀a,a<6->w.cell? ⟨X.R,6*i+a,J⟩=(hd++[K])[a]?:=by intro a hk;have:=j a hk;(have p:(6*i<=6*i+a/\6*i+a<6*i+6):=by omega);have A:(if 6*i<=6*i+a/\6*i+a<6*i+6 then w.cell? ⟨X.R,6*i+a,J⟩else J)=(hd++[K]).toArray[a]?:=this;grind
 cases b with|none=>(have e:K=sv J m k:=by cases hs;rfl);subst e;exact⟨⟨hd,m,k,cells,J⟩,W,f,g,d,c,hn,λt h=>by cases h⟩|some G=>obtain⟨e1,H⟩:=hb G rfl;obtain⟨⟨t,_,_⟩,rfl,p,rfl,rfl⟩:=Fc hs;simp only at p;obtain⟨o,o',g1,g2,g3⟩:=(Q.rel i hi).obj p;rw[e1]at g1;cases g1;cases g3 with|@cells _ D hz _ _ fr B=>obtain rfl:=B.nil rfl;obtain⟨D⟩:=D;have C:=hz;obtain rfl:=J0 C d;refine⟨⟨hd,m,k,D,I t⟩,W,f,g,d,c,(λh=>by cases h),λc2 h=>?_⟩;cases h;refine⟨g2,H,bw λu=>?_,G,p⟩;obtain⟨xx,tt,ad,e2,ac⟩:=Q.wm i hi G t p u;simp_all
def agw{a:Type}(f:Nat->List a)(n:Nat)(b:∀i,i<n->(f i).length=6):((aW n).flatMap f).length=6*n/\∀i k,i<n->k<6->((aW n).flatMap f)[6*i+k]?=(f i)[k]?:=by induction n with|zero=>simp|succ n c=>obtain⟨e,d⟩:=c λi hi=>b i (by omega);rw[List.range_succ,List.flatMap_append];grind
def uO(N:Nat)(r:Nat->RD)(i:Nat):List Y:=(r i).hd++[sv ((r i).b.map λ_=>N+3+i) (r i).m (r i).k]
def wv(N n:Nat)(r:Nat->RD):List Y:=(aW n).flatMap<|uO N r
def EA(N n:Nat)(r:Nat->RD):List Obj:=S #[] 167::S (wv N n r).toArray 202::S #[U (I ⟨N+1,0,J⟩) n n] 198::(aW n).map λi=>S (r i).cells.toArray 229
def oB(wh:z)(n:Nat)(r:Nat->RD):z:={wh with heap:=wh.heap++(EA wh.heap.size n r).toArray}
def sK(jl:iI)(N C R n:Nat)(r:Nat->RD):iI:=λb a=>jl b a\/(b=N+2/\a=C)\/(b=N+1/\a=R)\/∃i,i<n/\b=N+3+i/\(r i).b=I a
section
variable{wh:z}{n:Nat}{r:Nat->RD}
def FF{b:Nat}(h:b<wh.heap.size):(oB wh n r).heap[b]?=wh.heap[b]?:=by simp only[oB];grind
def Jj(k:Nat):(oB wh n r).heap[wh.heap.size+k]?=(EA wh.heap.size n r)[k]?:=by simp only[oB];grind
def HU:(oB wh n r).heap[wh.heap.size+1]?=I (S (wv wh.heap.size n r).toArray 202):=by rw[Jj];rfl
def Pz:(oB wh n r).heap[wh.heap.size+2]?=I (S #[U (I ⟨wh.heap.size+1,0,J⟩) n n] 198):=by rw[Jj];rfl
def Mg(hi:i<n):(oB wh n r).heap[wh.heap.size+3+i]?=I (S (r i).cells.toArray 229):=by rw[bg,Jj,show 3+i=i+3 by omega];simp only[EA,bq,List.getElem?_map,List.getElem?_range hi,bJ]
end
section
variable{X:Ph}{Ab:Nat->List Y->Nat->List Y->Prop}{E:Nat->Gh}{ρ0:iI}{w:z}{r:Nat->RD}
structure rn(X:Ph)(Ab:Nat->List Y->Nat->List Y->Prop)(E:Nat->Gh)(ρ0:iI)(w:z)(r:Nat->RD):Prop where
 mem:Mem X.kP X.J X.n E ρ0 X.gP w
 le:X.qo.le ρ0
 res:∀i,i<X.n->FM Ab E X.R w i (r i)
 old:∀b b',X.jl b b'->∃o o',X.wh.heap[b]?=some o/\X.w1.heap[b']?=some o'/\ni X.ok X.jl o o'
 still:X.Still=By X.jl X.w1
def rn.lt(K:rn X Ab E ρ0 w r){b:Nat}(h:X.jl b v):b<X.N:=by obtain⟨o,_,e,_⟩:=K.old b v h;exact(aZ.1 e).1
def rn.up(K:rn X Ab E ρ0 w r){b:Nat}(h:X.jl b v):ρ0 b v:=K.le _ _<|az h
def rn.C0(K:rn X Ab E ρ0 w r):ρ0 (X.N+2) X.C:=K.le _ _<|ay<|ay ⟨rfl,rfl⟩
def rn.apart(K:rn X Ab E ρ0 w r)(hi:i<X.n)(h:(r i).b=I v):(∀c,¬ρ0 c v)/\v≠X.R/\v≠X.Wg/\(∀l,ry l v->¬X.Old l)/\(∀a,a<X.n->(r a).b=I v->a=i)/\X.ok.old.heap.size<=v:=by obtain⟨_,_,d,f,g⟩:=(K.res i hi).blk v h;obtain⟨p1,m⟩:=K.mem.vg i hi f v g d;obtain⟨p,k,_,j⟩:=K.mem.pQ i hi f v g;refine⟨m,k,p,j,λa e o=>?_,bz (K.mem.sO i hi).2 d⟩;obtain⟨_,_,_,c2,s⟩:=(K.res a e).blk v o;grind
def rn.rowLen(K:rn X Ab E ρ0 w r):∀i,i<X.n->(uO X.N r i).length=6:=λi hi=>by simp[uO,(K.res i hi).len]
def rn.inj(H:X.Ok)(K:rn X Ab E ρ0 w r):iI.jv X.ok<|sK X.jl X.N X.C X.R X.n r:=by
 have i0:=K.mem.ln.inj;have f:=K.mem.qK;refine⟨?_,?_,?_⟩;.rintro a b o(h|⟨rfl,rfl⟩|⟨rfl,rfl⟩|⟨i,hi,rfl,h⟩)(c|⟨e,rfl⟩|⟨e,rfl⟩|⟨l,d,e,c⟩);(.exact i0.fn (K.up h)<|K.up c);(.have:=K.lt h;omega);(.have:=K.lt h;omega);(.have:=K.lt h;omega);(.have:=K.lt c;omega);(.rfl);(.omega);(.omega);(.have:=K.lt c;omega);(.omega);(.rfl);(.omega);(.have:=K.lt c;omega);(.omega);(.omega);grind
 .rintro a m b(h|⟨rfl,rfl⟩|⟨rfl,rfl⟩|⟨i,hi,rfl,h⟩)(c|⟨rfl,e⟩|⟨rfl,e⟩|⟨l,d,rfl,c⟩);(.exact i0.inj (K.up h)<|K.up c);(.subst e;exact i0.inj (K.up h) K.C0);(.exact absurd e (f _ _<|K.up h).2.1);(.exact absurd (K.up h)<|(K.apart d c).1 a);(.exact i0.inj K.C0<|K.up c);(.rfl);(.exact absurd e (f _ _ K.C0).2.1);(.exact absurd K.C0<|(K.apart d c).1 _);(.exact absurd rfl (f _ _<|K.up c).2.1);(.exact absurd e.symm (f _ _ K.C0).2.1);(.rfl);(.exact absurd rfl (K.apart d c).2.1);(.exact absurd (K.up c)<|(K.apart hi h).1 m);(.subst e;exact absurd K.C0<|(K.apart hi h).1 _);(.exact absurd e (K.apart hi h).2.1);.rw[(K.apart hi h).2.2.2.2.1 l d c]
 .have k:=H.b0.gs;have g:=K.mem.uW H.b0.kV 0 (by show 0<X.ok.gs;rw[k];decide);rintro a b(h|⟨rfl,rfl⟩|⟨rfl,rfl⟩|⟨i,hi,rfl,h⟩)j;(.exact i0.kV (K.up h) j);(.have:=i0.kV K.C0 j;exact this);(.rw[k]at j;(have:X.R=0:=by omega);exact absurd this.symm (f _ _ g).2.1);.rw[k]at j;(obtain rfl:b=0:=by omega);exact absurd g<|(K.apart hi h).1 0
def rn.rel(H:X.Ok)(K:rn X Ab E ρ0 w r):jz X.ok (sK X.jl X.N X.C X.R X.n r) (oB X.wh X.n r) w:=by
 have s:X.jl.le<|sK X.jl X.N X.C X.R X.n r:=λ_ _ h=>az h;refine⟨K.inj H,⟨?_,K.mem.ln.gs.2⟩,λx=>absurd x H.b0.kU,?_,K.mem.ln.out⟩;.have W:=H.b0.gs;rw[W];have:(oB X.wh X.n r).heap[X.wh.heap.size+1]?=_:=HU;grind
 .rintro b g(h|⟨rfl,rfl⟩|⟨rfl,rfl⟩|⟨i,hi,rfl,h⟩);(.have e:=K.lt h;obtain⟨o,o1,e1,e2,e3⟩:=K.old b g h;by_cases hc:∃x t f,X.w1.heap[g]?=I (S x t f);(. (have hs:X.Still g:=by rw[K.still];exact⟨b,h,hc⟩);have e4:=(K.mem.still g hs).1;exact⟨o,o1,by rw[FF e];exact e1,e4.trans e2,e3.mono s⟩);.obtain⟨p,p',W,g2,g3⟩:=K.mem.ln.obj<|K.up h;have d:(lD X.wh X.pa).heap[b]?=I p:=W;rw[zn e,e1]at d;(have D:yT o=o:=by cases e3 with|cells=>grind|map=>rfl|number=>rfl);simp only[bJ,bu]at d;rw[D]at d;subst d;exact⟨o,p',by rw[FF e];exact e1,g2,(ni.shrink (ρ1:=ρ0) (Bw H.b0) (λ_ _ h=>K.up h) K.mem.ln.inj.fn g3 e3).mono s⟩);(.refine⟨_,_,Pz,K.mem.var,?_⟩;have T:jK (sK X.jl X.N X.C X.R X.n r) ⟨X.N+1,0,J⟩ ⟨X.R,0,J⟩:=⟨ay<|ay<|az ⟨rfl,rfl⟩,rfl,rfl⟩;exact .cells (.cons (.slice T _ _) .nil) _<|xa.refl _);(.obtain⟨j,ec,hs⟩:=K.mem.row;refine⟨_,_,HU,ec,.cells ?_ _<|xa.refl _⟩;have hf:=agw (uO X.N r) X.n K.rowLen;have aa:j.size=6*X.n:=hs;refine jf.Et ?_ λA v v' hv P=>?_;(.rw[show(wv X.wh.heap.size X.n r).toArray.toList=wv X.wh.heap.size X.n r from rfl];show(wv X.N X.n r).length=_;rw[show(wv X.N X.n r).length=6*X.n from hf.1];grind);. (have hq:A<6*X.n:=by grind);obtain⟨i,k,hi,hk,rfl⟩:∃i k,i<X.n/\k<6/\A=6*i+k:=⟨A/6,A%6,by omega,by omega,by omega⟩;have a:(wv X.N X.n r)[6*i+k]?=I v:=hv;rw[show(wv X.N X.n r)[6*i+k]?=_ from hf.2 i k hi hk]at a;have G:=K.res i hi;(have c:((r i).hd++[sv (r i).b (r i).m (r i).k])[k]?=I v':=by rw[<-G.row k hk];have B:w.heap[X.R]?=I (S j 202):=ec;simp only[bh,B];simpa using P);have hl:=G.len;rcases Nat.lt_or_ge k 5 with Q|Q;(.rw[uO,bK<|by omega]at a;rw[bK<|by omega]at c;rw[a]at c;cases c;have:=Hd (ok:=X.ok) (ρ:=sK X.jl X.N X.C X.R X.n r) (l:=[v]) (λu hu=>by simp at hu;subst hu;exact G.hd u<|bM a);cases this with|cons h _=>exact h);. (obtain rfl:k=5:=by omega);rw[uO,bN<|by omega,hl]at a;rw[bN<|by omega,hl]at c;simp at a c;subst a c;cases hb:(r i).b with|none=>exact .mz _ _|some c'=>have T:jK (sK X.jl X.N X.C X.R X.n r) ⟨X.N+3+i,0,J⟩ ⟨c',0,J⟩:=⟨ay<|ay<|ay ⟨i,hi,rfl,hb⟩,rfl,rfl⟩;exact .slice T _ _);.exact⟨_,_,Mg hi,((K.res i hi).blk g h).1,.cells (Hd<|by simpa using(K.res i hi).atoms) _<|xa.refl _⟩
end
section
variable{X:Ph}{Ab:Nat->List Y->Nat->List Y->Prop}{E:Nat->Gh}{ρ0:iI}{w:z}{r:Nat->RD}{f:au}{fv:Nat->Y}{ra:Option ae}{c:Nat}
def BL(X:Ph)(rd:Y)(fv:Nat->Y)(k:List aK):au:=(base 109).at ⟨sT (V<|I X.pa) rd ax (V<|I ⟨X.N+2,0,J⟩) ax X.n X.n<|mq fv 22<|aq #[],[]⟩ k
def WT(H:X.Ok)(K:rn X Ab E ρ0 w r)(d:∃u,iH X.ok X.jl (U ra X.n c) u)(b:LF X fv)(h:m7 X.kP Z ρ0 (pS X (U ra X.n c) X.n fv<|y (opsOf r9) [0]::K9) f):m7 X.ok Z (sK X.jl X.N X.C X.R X.n r) (BL X (U ra X.n c) fv<|y (opsOf r9) []::K9)<|f.at ⟨f.tmps.setIfInBounds 22<|aq #[],[]⟩<|y (opsOf r9) []::K9:=by
 have j:=h.tmps;have aS:=j.size.symm;refine⟨h.fn,rfl,?_,?_,rfl,rfl,rfl,rfl,rfl,h.early⟩;.intro it g;simp only[BL,Frame.at,K9,bE,bF,or_false]at g;rcases g with rfl|rfl<;>trivial
 have aO:X.jl.le<|sK X.jl X.N X.C X.R X.n r:=λ_ _ h=>az h;have dn:∀{v v':Y},iH X.kP ρ0 v v'->(∃u,iH X.ok X.jl v u)->iH X.ok (sK X.jl X.N X.C X.R X.n r) v v':=λh⟨u,hu⟩=>(iH.shrink (ρ1:=ρ0) (Bw H.b0) (λ_ _ h=>K.up h) K.mem.ln.inj.fn h hu).mono aO;have B:∃u,iH X.ok X.jl (V<|I X.pa) u:=by obtain⟨x,hx⟩:=H.pa;exact⟨V<|I ⟨x,X.pa.off,X.pa.spot⟩,iH.ptr ⟨hx,rfl,rfl⟩⟩
 obtain⟨_,m,v2⟩:=sZ j (k:=2) rfl;obtain⟨_,t,v5⟩:=sZ j (k:=5) rfl;obtain⟨u6,Q,v6⟩:=sZ j (k:=6) rfl;have aR:X.kP.jX=1000000:=H.b0.jX;have e6:u6=V (I ⟨X.Wg,0,J⟩):=by have:=Fh (by rw[aR];exact v6);rw[this];rfl
 subst e6;obtain⟨a2,rfl,_⟩:=we v2;obtain⟨⟨C',_,_⟩,rfl,e,rfl,rfl⟩:=we v5;simp only at e;have eC:=K.mem.ln.inj.fn e K.C0;subst eC;have a4:jK (sK X.jl X.N X.C X.R X.n r) ⟨X.N+2,0,J⟩ ⟨X.C,0,J⟩:=⟨ay<|az ⟨rfl,rfl⟩,rfl,rfl⟩;obtain⟨v0,v1,v2,v3,v4,v5,v6,v7,v8,v9,a5,aC,a1,a0,aB,s,aw,ad,G,T,am,P,A,al,eT⟩:=IJ f.tmps aS;have i:=j;rw[eT]at i m t Q;simp only[bG,bq,bH,bu]at m t Q;subst m t Q;show iV X.ok _ _ (f.tmps.setIfInBounds 22<|aq #[]);rw[eT];have a:jf X.kP ρ0 (sT (V<|I X.pa) (U ra X.n c) (V<|I ⟨X.N,0,J⟩) (V<|I ⟨X.N+2,0,J⟩) (Al 0) X.n X.n fv).toList [v0,v1,V<|I a2,v3,v4,V<|I ⟨X.C,0,J⟩,V<|I ⟨X.Wg,0,J⟩,v7,v8,v9,a5,aC,a1,a0,aB,s,aw,ad,G,T,am,P,A,al]:=i;simp only[sT]at a;obtain⟨h0,a⟩:=jA a;obtain⟨h1,a⟩:=jA a;obtain⟨h2,a⟩:=jA a;obtain⟨h3,a⟩:=jA a;obtain⟨h4,a⟩:=jA a;obtain⟨h5,a⟩:=jA a;obtain⟨h6,a⟩:=jA a;obtain⟨h7,a⟩:=jA a;obtain⟨h8,a⟩:=jA a;obtain⟨h9,a⟩:=jA a;obtain⟨D,a⟩:=jA a;obtain⟨o,a⟩:=jA a;obtain⟨p,a⟩:=jA a;obtain⟨aT,a⟩:=jA a;obtain⟨a6,a⟩:=jA a;obtain⟨a3,a⟩:=jA a;obtain⟨aa,a⟩:=jA a;obtain⟨aL,a⟩:=jA a;obtain⟨ac,a⟩:=jA a;obtain⟨ap,a⟩:=jA a;obtain⟨l,a⟩:=jA a;obtain⟨W,a⟩:=jA a;obtain⟨a7,a⟩:=jA a;obtain⟨av,a⟩:=jA a;simp only[BL,Frame.at,sT,bI];exact(.cons (dn h0 B)<|.cons (dn h1 d)<|.cons (.jP trivial)<|.cons (dn h3<|b 3)<|.cons (dn h4<|b 4)<|.cons (.ptr a4)<|.cons (.jP trivial)<|.cons (dn h7<|b 7)<|.cons (dn h8<|b 8)<|.cons (dn h9<|b 9)<|.cons (dn D<|b 10)<|.cons (dn o<|b 11)<|.cons (dn p d)<|.cons (dn aT ⟨_,.int _ _⟩)<|.cons (dn a6 ⟨_,.int _ _⟩)<|.cons (dn a3<|b 15)<|.cons (dn aa<|b 16)<|.cons (dn aL<|b 17)<|.cons (dn ac<|b 18)<|.cons (dn ap<|b 19)<|.cons (dn l<|b 20)<|.cons (dn W<|b 21)<|.cons (.tuple .nil)<|.cons (dn av<|b 23) .nil)
def adG(H:X.Ok)(K:rn X Ab E ρ0 w r)(aa:∃u,iH X.ok X.jl (U ra X.n c) u)(hf:LF X fv)(h:m7 X.kP Z ρ0 (pS X (U ra X.n c) X.n fv<|y (opsOf r9) [0]::K9) f)(hp:Plain f){cs B:List au}(D:Fs X.ok Z X.jl cs B)(g:oV X.ok X.jl)(j:∀b d,X.jl b d->d<X.ok.old.heap.size->kC X.wh b)(ac:X.ok.old.heap.size<=X.C){o:Array bn}{t':Trace}{q':Nat->Nat}(hL:Leavers Z t' o q')(hP:Past (λl=>X.Old l\/ShN X.Wg l) w.heap.size t')(hg:o[0]?=I (G (f.at ⟨f.tmps.setIfInBounds 22<|aq #[],[]⟩<|y (opsOf r9) []::K9) B)):qX X.ok Z (sK X.jl X.N X.C X.R X.n r) (BL X (U ra X.n c) fv (y (opsOf r9) []::K9)::cs) (oB X.wh X.n r) o w t' q' λl=>X.Old l\/ShN X.Wg l:=by
 have v:X.jl.le<|sK X.jl X.N X.C X.R X.n r:=λ_ _ h=>az h;have Q:=(H.mZ 0<|bd _).stat;obtain⟨lW,lC,lR,lN,oW,oR⟩:=K.mem.lt;have pQ:∀b d,sK X.jl X.N X.C X.R X.n r b d->d≠X.Wg/\∀l,ry l d->¬X.Old l:=by rintro b d(h|⟨rfl,rfl⟩|⟨rfl,rfl⟩|⟨i,hi,rfl,h⟩);(.obtain⟨A,_,_,p⟩:=K.mem.qK _ _<|K.up h;exact⟨A,p⟩);(.obtain⟨A,_,_,p⟩:=K.mem.qK _ _ K.C0;exact⟨A,p⟩);(.exact⟨Q.rw,Q.Ob⟩);.obtain⟨_,_,A,p,_⟩:=K.apart hi h;grind
 refine⟨by simp,⟨_::B,hg,.cons (WT H K aa hf h) ⟨rfl,hp.kind⟩<|D.mono v⟩,hL,hP,K.rel H,g.mono v,λb d s=>?_,λx m=>?_,K.mem.iR,λb d s P=>?_⟩;.obtain⟨A,p⟩:=pQ b d s;refine⟨λa ha k=>?_,λk=>?_⟩;(.rcases k with k|⟨T,e,m⟩;(.exact p (.cell a) ha k);grind);.rcases k with k|⟨T,e,m⟩;(.exact p (.obj d) rfl k);.cases e
 .rcases m with m|⟨T,rfl,m⟩;(.exact Loc.low_mono lN<|Q.low x m);.show T.block<w.heap.size;rw[m];exact lW
 .rcases s with s|⟨rfl,rfl⟩|⟨rfl,rfl⟩|⟨i,hi,rfl,h⟩;(.obtain⟨x,t,hi,e,W⟩:=j b d s P;exact⟨x,t,hi,by rw[FF<|K.lt s];exact e,W⟩);(.omega);(.have:X.ok.old.heap.size<=X.R:=oR;omega);.have:=(K.apart hi h).2.2.2.2.2;omega
end
end
end Go.Proofs.YtldeiiffabfmeaaGreatDoor
namespace Go.Rel
section
open Go.Conc Go.ConcN
variable{ok:iO}{ρ ρ':iI}{P:bj}
def results_tmp{fn:Func}{k:Nat}(h:fn.results=#[.tmp k])(tmps:Array Y):results fn tmps=pure (tmps.getD k ak):=by unfold results;simp_all
structure BY(ok:iO)(P:bj)(args args':Array Y)(wh W:z):Prop where
 old:ok.old=⟨W.heap,W.os,W.output⟩
 ex:∃ρ:iI,iV ok ρ args args'/\jz ok ρ wh W/\oV ok ρ/\∀b b',ρ b b'->kC wh b
def BY.zw{c a:Array Y}{wh W:z}(h:BY ok P c a wh W)(f:aX):∃ρ,qX ok P ρ [aG P f c .normal] wh #[G (aG P f a .normal) []] W #[] (λ_=>0) λ_=>False:=by obtain⟨ρ,j,k,i,e⟩:=h.ex;exact⟨ρ,by simp,⟨[aG P f a .normal],rfl,.cons (m7.enter j) ⟨rfl,rfl⟩ .nil⟩,leavers_one P _,past_nil.mono<|bd _,k,i,λ_ _ _=>⟨λ_ _ h=>h,λh=>h⟩,λ_ h=>h.elim,λd _=>by rw[h.old],λb d g _=>e b d g⟩
def Iy(am:Fits ok P)(B:mM ok P){f:aX}{fn:Func}{k:Nat}(hf:P.funcs[f]?=I fn)(C:P.inits.idxOf? f=J)(l:fn.results=#[.tmp k]){m a:Array Y}{wh W:z}{b:Bool}(E:BY ok P m a wh W)(h:lj ok P f m wh λv _=>v=M b):∃u last o x H,runNT P (u+1) (solo (G (aG P f a .normal) []) W) #[]=(.ended o x,H)/\runN P u (solo (G (aG P f a .normal) []) W)=.next last/\step P last=.ended o x/\Conc.Good P (λv r=>v=M b/\(r.os=W.os/\r.output=W.output)/\∀i,i<W.heap.size->r.heap[i]?=W.heap[i]?) last o x H:=by obtain⟨ρ,hA⟩:=E.zw f;obtain⟨N,ρ',ad,x,K,H,q',aa,l',al,r1,c,_,fr,v,rfl,s,hl,rfl⟩:=h [] _ _ _ J _ _ _ hA;obtain⟨la,g0,R⟩:=c.g0;cases R with|@cons _ j g hp _ la hs=>cases hs;simp only[List.headD_cons,List.tail_cons]at g0;obtain⟨l1,l2,l3,ac,l4,l5⟩:=hl;rw[s,hf]at l4;cases l4;rw[results_tmp l]at l5;(have hv:fr.tmps.getD k ak=M b:=by simp_all);(have Q:j.tmps.getD k ak=M b:=by have:=iV.getD g.tmps k<|iH.undef;exact(Ru this b).1 hv);(have A:P.funcs[j.fn]?=I fn:=by rw[g.fn,s];exact hf);(have t:P.inits.idxOf? j.fn=J:=by rw[g.fn,s];exact C);(have p:∀w1,stepG P aj (G j []) w1=.ended (.done<|M b) w1 #[]:=by intro w1;have hm:=g.mode.trans l1;simp[G,stepG,unwind,doReturn,hm,hp.defers,hp.kind,A,results_tmp l,Q,seen,t,GStep.after]);have hend:=beside_ends (D:=λ_ _ es=>es=#[]) (Post:=λv r=>v=M b/\(r.os=W.os/\r.output=W.output)/\∀i,i<W.heap.size->r.heap[i]?=W.heap[i]?) (λ_ _ es he e hx=>by grind) (w:=x) (sl:=K) (n:=0) g0 c.lv c.AZ ?_;(.obtain⟨u,last,o,w2,t2,k1,k2,k3,k4⟩:=hend;refine⟨N+u,last,o,w2,t2,?_,?_,k3,k4⟩;(.rw[solo_eq_crowd,show N+u+1=N+(u+1)by omega,runNT_add,r1];exact k1);.rw[solo_eq_crowd,runN_add];have:=congrArg Prod.fst r1;rw[runNT_fst]at this;rw[this];exact k2);.intro w1 X;obtain⟨d,rfl⟩:=X;refine⟨rfl,M b,#[],p _,by simp,rfl,by have:=c.qJ.out;rw[E.old]at this;exact this,λi T=>?_⟩;have:=c.iR i (by rw[E.old];exact T);rw[E.old]at this;exact this
end
end Go.Rel
namespace Go.Proofs.YtldeiiffabfmeaaGreatDoor
section
open Go.Conc Go.ConcN Go.RowKit Go.Conc.Lib Go.ConcR.Gen Go.ConcN.Gen Go.Rel
open Go.ConcR(KK wgBlock WgAt stA smA rd wr mk Payload DC0 ofEvent_cell)
def yL{wh:z}{pa:ae}{a:ae}(h:a.block<wh.heap.size)(b:wh.cell? a=I m):(lD wh pa).cell? a=I m:=by unfold bh at*;rw[zn h];cases c:wh.heap[a.block]? with|none=>grind|some o=>rw[c]at b;cases o<;>exact b
def aeh{w:z}{rb:Nat}{e:qM}(h:xX w rb v e):rb<w.heap.size:=by have:=h.1;unfold bh at this;grind
def Rl{wh:z}{pa:ae}{rb:Nat}{e:qM}(h:xX wh rb v e):xX (lD wh pa) rb v e:=by have a:=aeh h;obtain⟨c,i,g,j,f,b,d⟩:=h;exact⟨yL a c,yL a i,yL a g,yL a j,yL a f,yL a b,yL a d⟩
def uH(ok:iO)(a:aX->Prop)(Wg R n:Nat):iO:={fn:=a,kU:=False,gs:=ok.gs,kV:=True,old:=ok.old,tags:=(sX ok Wg R n).tags,jX:=ok.jX}
def Left(e:Nat->List Y->Nat->List Y->Prop)(wh:z)(n:Nat)(v:Y)(a:z):Prop:=v=U (I ⟨wh.heap.size+1,0,J⟩) n n/\∃r:Nat->RD,(∀i,i<n->(r i).hd.length=5/\(∀v∈(r i).hd,Atom v)/\e i (r i).hd (r i).m (r i).cells/\(∀v∈(r i).cells,Atom v)/\((r i).b=J->(r i).cells=[]))/\∃c d,a=(oB wh n r).re c d
section
variable{ok:iO}{fnW:aX->Prop}{Ab:Nat->List Y->Nat->List Y->Prop}
def Yf(B0:tR ok)(X:Ph)(G:X.ok=ok){r:Nat->RD}{ra:Option ae}{c:Nat}{p:Nat->Y}{l:List au}(t:∀i,i<X.n->(r i).hd.length=5/\(∀v∈(r i).hd,Atom v)/\Ab i (r i).hd (r i).m (r i).cells/\(∀v∈(r i).cells,Atom v)/\((r i).b=J->(r i).cells=[])):Go.Rel.Reach ok Z (BL X (U ra X.n c) p (y (opsOf r9) []::K9)::l) (oB X.wh X.n r) λo h=>∃fr v,o=fr::l/\fr.fn=109/\fr.leaving Z h (.returned v)/\Left Ab X.wh X.n v h:=by
 have j:=B0.fits;have B:=B0.kg.jS;refine Go.Rel.Reach.last j B ?_;refine Go.Rel.Reach.pure j B rfl (lz trivial) ?_;have u:(oB X.wh X.n r).cell? ⟨X.N+2,0,J⟩=I (U (I ⟨X.wh.heap.size+1,0,J⟩) X.n X.n):=by have e:(oB X.wh X.n r).heap[X.N+2]?=_:=Pz;simp[bh,e]
 have A:=uS (ids:=[]) (a:=⟨sT (V<|I X.pa) (U ra X.n c) ax (V<|I ⟨X.N+2,0,J⟩) ax X.n X.n<|mq p 22<|aq #[],[]⟩) (Q:=λe k w1=>e=.normal/\k.defers=[]/\k.tmps.getD 4 ak=U (I ⟨X.wh.heap.size+1,0,J⟩) X.n X.n/\∃g d,w1=(oB X.wh X.n r).re g d) j B0.kg (pO (blank B0.jX) (DG ok.gs).2.2.2) (λe a w g d f=>⟨f.1,f.2.1,f.2.2.1,by obtain⟨x,D,rfl⟩:=f.2.2.2;exact⟨g,d,rfl⟩⟩) (λe a w f=>by rw[f.1];trivial) λg d=>iM (acs _ _ _ _ X.n X.n (X.N+2) _ ((oB X.wh X.n r).re g d) _ X.n X.n u) λe a w f=>⟨f.1,f.2.1,f.2.2.1,g,d,f.2.2.2⟩;refine(A (base 109) [an .ret] l ⟨_,aJ⟩<|by simp).bind ?_;rintro o E⟨e,k,fz,rfl,⟨rfl,hd,C,g,d,rfl⟩,s⟩;cases s;refine Go.Rel.Reach.pure j B rfl (lz trivial) ?_;refine .stop ⟨_,U (I ⟨X.wh.heap.size+1,0,J⟩) X.n X.n,rfl,rfl,⟨rfl,hd,rfl,_,aJ,?_⟩,rfl,r,t,g,d,rfl⟩;rw[Go.Rel.results_tmp rfl];show(pure<|k.tmps.getD 4 ak:Sem Y).run Z _=_;rw[C];rfl
structure JY(ok:iO)(fnW:aX->Prop)(x0:Array Y)(t0:aD):Prop where
 base:∀Wg R n,E8<|uH ok fnW Wg R n
 GX:∃fr0,ok.old.heap[0]?=some (S x0 t0 fr0)/\fr0.2<=x0.size
 x0:∀Wg R n,∀σ:iI,iV (uH ok fnW Wg R n) σ x0 x0
def afm(B0:tR ok){x0:Array Y}{t0:aD}(WF:JY ok fnW x0 t0){wh:z}{pa:ae}{ra:Option ae}{rb ro n c:Nat}{ents:Nat->qM}(hn:n<2147483647)(aa:n≠0->ra=I ⟨rb,ro,J⟩)(bR:∀a,ra=I a->a.spot=J)(A:∀i,i<n->xX wh rb (ro+i*7) (ents i))(hw:∀Wg R i,i<n->C4 (uH ok fnW Wg R n) n (AE Ab) i (V<|I ⟨wh.heap.size,0,J⟩) (V<|I ⟨wh.heap.size+4,0,J⟩) (V<|I ⟨wh.heap.size+2,0,J⟩) (V<|I ⟨wh.heap.size+3,0,J⟩) (tP (ll (lD wh pa) i<|ents i) x0 t0)):lj ok Z 109 #[V<|I pa,U ra n c] wh<|Left Ab wh n:=by
 intro cs ρ gs w sl t b9 av P;obtain⟨la,_,G⟩:=P.g0;have B:(∃x,ρ pa.block x)/\(∃u,iH ok ρ (U ra n c) u)/\(∃fe br,Fs ok Z ρ (fe::cs) br):=by refine⟨?_,?_,⟨_,_,G⟩⟩;(.cases G with|cons h hp hs=>have hT:=h.tmps;obtain⟨_,_,hv⟩:=sZ hT (k:=0) (v:=V<|I pa) (by simp[aG,aJ]);obtain⟨a',_,ha⟩:=we hv;exact⟨_,ha.1⟩);.cases G with|cons h hp hs=>have hT:=h.tmps;obtain⟨u,_,hv⟩:=sZ hT (k:=1) (v:=U ra n c) (by simp[aG,aJ]);exact⟨u,hv⟩
 obtain⟨ap,Q,a5⟩:=B;have p:∀a,ra=I a->∃x,ρ a.block x:=by rintro a rfl;obtain⟨u,hu⟩:=Q;obtain⟨a',_,ha⟩:=Fc hu<|bR a rfl;exact⟨_,ha.1⟩
 obtain⟨N1,cc,a4,w1,aL,t1,q1,aT,l1,ca,am,bc,Gr,cg,hM,⟨τ,d,rfl⟩,rfl⟩:=adH B0 pa ra n c hn wh cs ρ gs w sl t b9 av P;obtain⟨Wg,C,R,pb,s,bV,f,ba,⟨N2,Gs⟩,bi,a0,bp,aO,bT,cd,fC,fR,fW,fs,W,ce⟩:=agD B0 P Gr ap p a5 bc hM aL;let X:Ph:={ok:=ok,okW:=uH ok fnW Wg R n,Wg:=Wg,C:=C,R:=R,n:=n,n0:=a4.size,N0:=s.w.heap.size,w1:=s.w,Still:=By ρ s.w,Old:=aT,RS:=AE Ab,jl:=ρ,wh:=wh,pa:=pa,pb:=pb,x0:=x0,t0:=t0};obtain⟨e,T⟩:=bi (uH ok fnW Wg R n)<|AE Ab;have H:X.Ok:=by refine⟨B0,WF.base Wg R n,λj hj=>⟨T,(WF.base Wg R n).fits,(WF.base Wg R n).kg.jS,acG rfl T.rc T.rw,?_⟩,⟨_,e.cy.mem.ln⟩,e.cy.mem.uW,rfl,rfl,λh=>h,rfl,rfl,?_,WF.GX,WF.x0 Wg R n,hn,ap⟩;(.grind);.rintro i x w τ d⟨hd,m,k,cells,b,h⟩;exact⟨hd,m,k,cells,b,h⟩
 have E:Kc X ra rb ro ents:=by refine⟨aa,λi hi=>Rl<|A i hi,λac=>?_,λi hi=>?_,λi hi=>hw Wg R i hi⟩;(.grind);. (have ac:n≠0:=by grind);obtain⟨x,hx⟩:=p _<|aa ac;obtain⟨v',_,hv⟩:=P.qJ.cell (a:=⟨rb,ro+i*7+2,J⟩) (a':=⟨x,ro+i*7+2,J⟩) ⟨hx,rfl,rfl⟩ (A i hi).2.2.1;grind
 obtain⟨s3,bt,bX,f3,b8,⟨N3,F6⟩,h3,l3,bf⟩:=toLoop H Q ⟨e,a0,bp,aO⟩ bV;obtain⟨s4,aB,a2,f4,cb,⟨N4,JN⟩,h4,l4,aR⟩:=rounds H E n 0 (by grind) l3 bf h3 bt;obtain⟨E5,bY,w5,a1,t5,q5,⟨N5,al⟩,a8,bx,a6,g,a9⟩:=waitAll H h4 aB;have o:∀i,∃r,i<n->FM Ab E5 R w5 i r:=by intro i;by_cases hi:i<n;(.obtain⟨r,l⟩:=agy rfl g hi<|a9 i hi;grind);.exact⟨⟨[],0,0,[],J⟩,λh=>absurd h hi⟩
 obtain⟨r,l⟩:∃r:Nat->RD,∀i,i<n->FM Ab E5 R w5 i (r i):=⟨λi=>(o i).choose,λi hi=>(o i).choose_spec hi⟩;have K:rn X Ab E5 a2 w5 r:=⟨g,l4,l,W,rfl⟩;have aw:ok.old.heap.size<=w.heap.size:=by apply bw;intro be;have:=P.iR w.heap.size be;grind
 have aS:=adG H K Q aR h4.rel h4.plain bT P.kV P.tG (bz aw fC) a8 bx a6;obtain⟨N6,bQ,bo,w6,bb,t6,q6,bv,l6,aC,ad,a3,a7,D⟩:=Yf B0 X rfl (λi hi=>⟨(l i hi).len,(l i hi).hd,(l i hi).ab,(l i hi).atoms,(l i hi).nil⟩) _ _ _ a1 _ _ _ aS;have bU:vY ρ w.heap.size (sK X.jl X.N X.C X.R X.n r) w5.heap.size:=by have hz:s.w.heap.size<=w5.heap.size:=g.n1.1;refine⟨λ_ _ h=>az h,?_,by omega⟩;rintro b b'(h|⟨_,rfl⟩|⟨_,rfl⟩|⟨i,hi,_,h⟩);(.exact az h);(.exact ay fC);(.exact ay fR);.have hb:=((l i hi).blk b' h).2.2.1;have cf:s.w.heap.size<=(E5 i).bs:=g.n1.2 i hi;omega
 refine⟨N1+(N2+(N3+(N4+(N5+N6)))),bQ,bo,w6,bb,t6,q6,bv,l6,aC,?_,a3,bU.trans a7,D⟩;rw[runNT_add,am];simp only;rw[runNT_add,Gs];simp only;rw[runNT_add,F6];simp only;rw[runNT_add,JN];simp only;rw[runNT_add,al];exact ad
end
end
section
open Go.RowKit Go.Maps Go.Rel
def rh:List Nat:=[16,17,19,20,21,22,23,26,34,35,37,38,39,40,41,42,43,44,45,46,47,48,49,50,60,61,62,63,64,65,66,68,69,70,71,72,73,74,75,76,77,78,79,80,81,82,83,84,85,100,101,102,103,104,105,106,107,108,110,111,112,113,114,115,116,117,118,119,126,127,128,129,137,138,139,140,141,142,143,144,148,149,150,170,171,172,173,174]
def uP:List Nat:=[133,134,135,164,195,197,198,199,200,201,202,203,204,205,206,207,208,209]
def mZ(l:List Nat):xS:=⟨λf=>l.contains f,aj,1,1000000⟩
def JM(P:bj)(B:xS)(l:List Nat):Bool:=l.all λf=>match P.funcs[f]? with|I fn=>(match fn.body with|I c=>Go.Rel.mD P B c|J=>ah)&&!(fn.name== "runtime.NumGoroutine")|J=>ah
def LI{ok:iO}{P:bj}{B:xS}{l:List Nat}(d:B.Fits ok)(i:∀f,ok.fn f->f∈l)(h:JM P B l=aj):oq ok P:=by
 have key:∀f,ok.fn f->∃fn c,P.funcs[f]?=I fn/\fn.body=I c/\Go.Rel.mD P B c=aj/\(fn.name== "runtime.NumGoroutine")=ah:=by intro f a;have:=bO.1 h f<|i f a;cases e:P.funcs[f]? with|none=>rw[e]at this;cases this|some fn=>rw[e]at this;simp only[Bool.and_eq_true]at this;cases e2:fn.body with|none=>rw[e2]at this;cases this.1|some c=>rw[e2]at this;exact⟨fn,c,rfl,e2,this.1,by simpa using this.2⟩
 refine⟨λf a=>?_,λf fn c a g b=>?_⟩;.obtain⟨fn,c,k1,k2,k3,k4⟩:=key f a;exact⟨fn,k1,by rw[k2];rfl,k4⟩
 .obtain⟨j,k,k1,k2,k3,k4⟩:=key f a;rw[g]at k1;cases k1;rw[b]at k2;cases k2;exact pO d k3
def YC:JM Z (mZ rh) rh=aj:=by kernel_rfl
def Xi:JM Z (mZ uP) uP=aj:=by kernel_rfl
def jb(old:jL):iO:={fn:=λf=>f∈rh,kU:=False,gs:=1,kV:=True,old:=old,tags:=λ_=>ax,jX:=1000000}
def MQ:Tryz.prog.globals.size=1:=by kernel_rfl
def Es(old:jL):(mZ rh).Fits<|jb old:=⟨λf h=>by simpa[mZ,jb]using h,λ_=>trivial,rfl,rfl⟩
def jD(old:jL):tR<|jb old:=⟨⟨MQ⟩,LI (Es old) (λf h=>h) YC,λh=>h,λn=>by simp[jb,Cc],trivial,rfl,rfl⟩
def aew:((aW 25).all λi=>match nU[i]? with|I o=>AJ Z (mZ uP) o|J=>aj)=aj:=by kernel_rfl
def Vh(old:jL)(Wg R n:Nat):E8<|uH (jb old) (λf=>f∈uP) Wg R n:=by have a:(mZ uP).Fits<|uH (jb old) (λf=>f∈uP) Wg R n:=⟨λf h=>by simpa[mZ,uH]using h,λ_=>trivial,rfl,rfl⟩;refine⟨⟨MQ⟩,LI a (λf h=>h) Xi,λi o hi b=>?_⟩;have:=bO.1 aew i (by simpa using hi);rw[b]at this;exact Ip a this
end
section
open Go.RowKit Go.Maps
def Cb(w:z):Prop:=0<w.heap.size/\∀k:Nat,1<=k->k<=10->w.cell? ⟨0,k,J⟩=I (.func (.func<|zp k) #[] #[])
def Cb.below{w:z}(h:Cb w){n:Nat}(a:Below n w B)(b:0<n):Cb B:=⟨Nat.lt_of_lt_of_le h.1 a.size,λk d c=>by rw[a.cell b];exact h.2 k d c⟩
def Qp{n:Nat}{w:z}{b:Nat}{hs:Nat->Bool}{vl:Nat->Int}(h:lF n w b hs vl){k:Nat}(hk:k<100){x:Int}(g:ji x)(i:n<=100000):∃e,(Instr.mapUpdate 119 (aM<|I b) (L O k)<|L O x).run Z w=q () e/\lF (n+1) e b (upd hs k aj) (upd vl k x)/\w.grownBy e (I b):=by obtain⟨j,a,f⟩:=h;have c:=keyOf_int_mk bP<|xp hk;obtain⟨e,d,r1,r2⟩:=a.update vV Tryz.underlying119 (by unfold maxLen;omega) c<|plainElem_int bP g;exact⟨e,d,IL a f r1,r2⟩
def ZD(w:z)(a b c d:Y):jy ((w.alloc<|.map #[] 0).alloc<|S #[M ah,L O 0,L O 0,L O 0,L O 0,U J 0 0,a,b,c,d,aM<|I w.heap.size,L O 0] 249) w.heap.size (w.heap.size+1) w.heap.size a b c d 0<|sR []:=by
 refine⟨⟨by omega,by omega⟩,⟨U J 0 0,?_,World.ownsRow_nil _ _ _ _,by simp[Value.ownBlock],qk.nil _ _ _⟩,?_⟩;.have:=km (w.alloc<|.map #[] 0) [M ah,L O 0,L O 0,L O 0,L O 0,U J 0 0,a,b,c,d,aM<|I w.heap.size,L O 0] 249;simp only[bA]at this;refine this.congr λj e=>?_;match j,e with|0,_|1,_|2,_|3,_|4,_|5,_|6,_|7,_|8,_|9,_|10,_|11,_=>rfl
 .exact(K8 w).block<|Below.heap_alloc _ _ _<|by simp
def pk.kind{t:iP}(T:pk t){k:Nat}(hk:k<t.nc):∃kk:Nat,t.c (4*k)=kk/\1<=kk/\kk<=10:=by
 have a:=nO T.keys.2.2.2.2 hk;unfold qG at a;generalize t.c (4*k)=K at*;unfold mS at a;by_cases e:K=10;.exact⟨10,e,by omega,by omega⟩
 . (have:K=1\/K=2\/K=3\/K=4\/(K=5\/K=6)\/(K=7\/K=8)\/K=9:=by apply Classical.byContradiction;intro b;rw[if_neg<|by omega,if_neg<|by omega,if_neg<|by omega,if_neg<|by omega,if_neg<|by omega,if_neg<|by omega,if_neg<|by omega,beq_iff_eq]at a;exact e a);exact⟨K.toNat,by omega,by omega,by omega⟩
def RX(a:Array Y)(w:z):(callFunc 197 a).run Z w=q (aA 197 a) w:=by go_simp
def Tu(a:Array Y)(w:z):(callFunc 198 a).run Z w=q (aA 198 a) w:=by go_simp
def SE(a:Array Y)(w:z):(callFunc 199 a).run Z w=q (aA 199 a) w:=by go_simp
def aaB(a:Array Y)(w:z):(callFunc 201 a).run Z w=q (aA 201 a) w:=by go_simp
def So(a:Array Y)(w:z):(callFunc 203 a).run Z w=q (aA 203 a) w:=by go_simp
def aah(a:Array Y)(w:z):(callFunc 205 a).run Z w=q (aA 205 a) w:=by go_simp
def PZ(a:Array Y)(w:z):(callFunc 206 a).run Z w=q (aA 206 a) w:=by go_simp
def acY(a:Array Y)(w:z):(callFunc 207 a).run Z w=q (aA 207 a) w:=by go_simp
def Um(a:Array Y)(w:z):(callFunc 208 a).run Z w=q (aA 208 a) w:=by go_simp
def QR(a:Array Y)(w:z):(callFunc 209 a).run Z w=q (aA 209 a) w:=by go_simp
def VX(k:Nat)(c:1<=k)(b:k<=10)(a:Array Y)(w:z):(callFunc (zp (k:Nat)) a).run Z w=q (aA (zp (k:Nat)) a) w:=by
 have:k=1\/k=2\/k=3\/k=4\/k=5\/k=6\/k=7\/k=8\/k=9\/k=10:=by omega
 rcases this with rfl|rfl|rfl|rfl|rfl|rfl|rfl|rfl|rfl|rfl;.exact RX _ _
 .exact Tu _ _
 .exact SE _ _
 .exact aaB _ _
 .exact So _ _
 .exact aah _ _
 .exact PZ _ _
 .exact acY _ _
 .exact Um _ _
 .exact QR _ _
def S8(w:z)(g:Nat):w.drew.heap[g]?=w.heap[g]?:=rfl
def XQ{w:z}{b g:Nat}(h:g≠b)(f e a c i d:Y):((((((w.setCell ⟨b,0,J⟩ f).setCell ⟨b,1,J⟩ e).setCell ⟨b,2,J⟩ a).setCell ⟨b,3,J⟩ c).setCell ⟨b,4,J⟩ i).setCell ⟨b,5,J⟩ d).heap[g]?=w.heap[g]?:=by iterate 6 rw[bB _ _ _ _ h]
def afM(t:iP)(T:pk t)(a b c d vL:Y)(l:List<|Nat×Int)(w:z)(bt:Cb w)(ht:lE w a b c d t)(hl:pA w vL l)(av:∀p∈l,p.1<100/\ji p.2)(cg:l.length<=20000):Calls Z 133 #[aI #[a,b,c,d],vL] w λe w'=>∃vC,e=.returned (aI #[M (lu t l).ab,L O<|(lu t l).r 0,L O<|(lu t l).r 1,L O<|(lu t l).r 2,L O<|(lu t l).r 3,vC])/\w'.ownsRow w.heap.size 229 3 vC (lu t l).ch.length (ov (lu t l).ch)/\qk w' vC/\Below w.heap.size w w':=by
 have bT:=@run_makeMap Z;obtain⟨va,cl,rfl,bx,aT,R,X⟩:=id hl;obtain⟨aa,ac,ra,-⟩:=id ht.r;obtain⟨Q,P,rb,-⟩:=id ht.wr;obtain⟨K,H,rc,-⟩:=id ht.g;obtain⟨E,C,rd,-⟩:=id ht.c;subst ra rb rc rd;have a8:=ZD ((w.alloc<|S #[U aa t.nr ac,U Q t.nw P,U K t.ng H,U E t.nc C] 91).alloc<|S #[M ah,L O 0,L O 0,L O 0,L O 0,U J 0 0] 202) (U aa t.nr ac) (U Q t.nw P) (U K t.ng H)<|U E t.nc C;simp only[bA]at a8;have x:Below w.heap.size w<|(w.alloc<|S #[U aa t.nr ac,U Q t.nw P,U K t.ng H,U E t.nc C] 91).alloc<|S #[M ah,L O 0,L O 0,L O 0,L O 0,U J 0 0] 202:=((aN _ _).alloc (aH _) _).alloc (by simp) _;have hN:((w.alloc<|S #[U aa t.nr ac,U Q t.nw P,U K t.ng H,U E t.nc C] 91).alloc<|S #[M ah,L O 0,L O 0,L O 0,L O 0,U J 0 0] 202).heap.size=w.heap.size+1+1:=by simp
 have r0:=(km w [U aa t.nr ac,U Q t.nw P,U K t.ng H,U E t.nc C] 91).alloc<|S #[M ah,L O 0,L O 0,L O 0,L O 0,U J 0 0] 202;have r1:=km (w.alloc<|S #[U aa t.nr ac,U Q t.nw P,U K t.ng H,U E t.nc C] 91) [M ah,L O 0,L O 0,L O 0,L O 0,U J 0 0] 202;simp only[bA]at r1;have br:Below (w.heap.size+1+1) ((w.alloc<|S #[U aa t.nr ac,U Q t.nw P,U K t.ng H,U E t.nc C] 91).alloc<|S #[M ah,L O 0,L O 0,L O 0,L O 0,U J 0 0] 202)<|(((w.alloc<|S #[U aa t.nr ac,U Q t.nw P,U K t.ng H,U E t.nc C] 91).alloc<|S #[M ah,L O 0,L O 0,L O 0,L O 0,U J 0 0] 202).alloc<|.map #[] 0).alloc<|S #[M ah,L O 0,L O 0,L O 0,L O 0,U J 0 0,U aa t.nr ac,U Q t.nw P,U K t.ng H,U E t.nc C,aM<|I<|w.heap.size+1+1,L O 0] 249:=((aN _ _).alloc (by simp) _).alloc (by simp) _;go_enter Tryz.func133,Tryz.ntmps133;go_wp2_with fail;clear bT;generalize((((w.alloc<|S #[U aa t.nr ac,U Q t.nw P,U K t.ng H,U E t.nc C] 91).alloc<|S #[M ah,L O 0,L O 0,L O 0,L O 0,U J 0 0] 202).alloc<|.map #[] 0).alloc<|S #[M ah,L O 0,L O 0,L O 0,L O 0,U J 0 0,U aa t.nr ac,U Q t.nw P,U K t.ng H,U E t.nc C,aM<|I<|w.heap.size+1+1,L O 0] 249)=w4 at*;generalize((w.alloc<|S #[U aa t.nr ac,U Q t.nw P,U K t.ng H,U E t.nc C] 91).alloc<|S #[M ah,L O 0,L O 0,L O 0,L O 0,U J 0 0] 202)=w2 at*;go_loopw[15](λi wr=>∃k:Nat,k<=l.length/\i=L O k/\jy wr (w.heap.size+1+1) (w.heap.size+1+1+1) (w.heap.size+1+1) (U aa t.nr ac) (U Q t.nw P) (U K t.ng H) (U E t.nc C) k (sR<|l.take k)/\Below (w.heap.size+1+1) w2 wr)(λi _=>l.length-(intOf i).toNat);case atStart=>exact⟨0,bd _,rfl,a8,br⟩
 case round=>clear a8 br;obtain⟨k,hk,rfl,hm,o⟩:=hrel;by_cases B:k<l.length;(.obtain⟨p,hp⟩:∃p,l[k]?=I p:=⟨l[k],by simp[B]⟩;obtain⟨p1,p2⟩:=p;obtain⟨x0,x1⟩:=zL hp;obtain⟨bi,a9⟩:=av _<|bM hp;cases va with|none=>exact absurd (R.1 rfl).1 (by omega)|some ad=>obtain⟨h1,h2⟩:=X ad rfl;obtain⟨bv,G⟩:=h1 (by omega);obtain⟨vb,vo,sp⟩:=ad;simp only at bv G;subst bv;(have y0:wr.cell? ⟨vb,vo+k*2,J⟩=I (L O p1):=by have:=h2 _ _ x0;rw[nT]at this;rw[o.cell (p:=⟨vb,vo+k*2,J⟩)<|show vb<_ by omega,x.cell (p:=⟨vb,vo+k*2,J⟩) G];exact this);(have y1:wr.cell? ⟨vb,vo+k*2+1,J⟩=I (L O p2):=by have:=h2 _ _ x1;rw[nT]at this;rw[o.cell (p:=⟨vb,vo+k*2+1,J⟩)<|show vb<_ by omega,x.cell (p:=⟨vb,vo+k*2+1,J⟩) G];exact this);(have aS:(k:Int)<(l.length:Int):=by omega);(have ce:(0:Int)<=(k:Int):=by omega);have hS:Hid<|_=_:=Vw hp;clear X h2 x0 x1 R aT hp;simp only at bi a9 hS;have A:=hm.jr<|(aN _ _).alloc (aH _)<|S #[L O p1,L O p2] 81;have b9:=o.alloc hm.qP<|S #[L O p1,L O p2] 81;(have z0:(wr.alloc<|S #[L O p1,L O p2] 81).cell? ⟨wr.heap.size,0,J⟩=I (L O p1):=by simp);(have z1:(wr.alloc<|S #[L O p1,L O p2] 81).cell? ⟨wr.heap.size,1,J⟩=I (L O p2):=by simp);go_wp2_with fail;clear y0 y1 hm o;generalize hB:wr.heap.size=N at*;generalize(wr.alloc<|S #[L O p1,L O p2] 81)=w5 at*;clear hB;(have cm:w5.cell? ⟨w.heap.size+1+1+1,10,J⟩=I (aM<|I<|w.heap.size+1+1):=by obtain⟨vC,D,-⟩:=A.ex;exact D.cell (j:=10) (by omega));obtain⟨w6,cj,a6,am⟩:=Qp A.drew.ml bi a9 (by omega);have cd:=A.drew.mapped a6 λk hk bV=>am.block k hk (by simpa using bV);have b8:Below (w.heap.size+1+1) w2 w6:=b9.drew.grown am A.drew.qP (λb hb=>by cases hb;exact aH _);go_region;go_wp2_with fail;go_roundw;(case rel=>exact⟨k+1,by omega,by go_num,by rw[hS.out];exact cd,b8⟩);case measure=>simp[intOf];omega);. (have aw:k=l.length:=by omega);rw[aw,List.take_length]at hm;(have co:¬(k:Int)<(l.length:Int):=by omega);clear aw X R aT hl;go_wp2_with fail;go_loopw[8](λ_ wq=>∃(n:Nat)(m:jc),n<=20000+m.nx/\jy wq (w.heap.size+1+1) (w.heap.size+1+1+1) (w.heap.size+1+1) (U aa t.nr ac) (U Q t.nw P) (U K t.ng H) (U E t.nc C) n m/\py t m/\yf t m=lu t l/\Below (w.heap.size+1+1) w2 wq)(λ_ wq=>t.nc-(intOf<|(wq.cell? ⟨w.heap.size+1+1+1,11,J⟩).getD ak).toNat);(case atStart=>exact⟨l.length,sR l,by simp[sR];omega,hm,Oe t λp hp=>(av p hp).2,Rx t l,o⟩);case round=>clear hm o;obtain⟨n,m,hn,hm,W,aB,o⟩:=hrel;(have a7:wr.cell? ⟨w.heap.size+1+1+1,11,J⟩=I (L O m.nx):=by obtain⟨vC,D,-⟩:=hm.ex;exact D.cell (j:=11) (by omega));(have bp:wr.cell? ⟨w.heap.size,3,J⟩=I (U E t.nc C):=by rw[o.cell (p:=⟨w.heap.size,3,J⟩)<|show w.heap.size<_ by omega];exact r0.cell (j:=3) (by simp));by_cases B:m.nx<t.nc;(. (have aS:(m.nx:Int)<(t.nc:Int):=by omega);(have ce:(0:Int)<=(m.nx:Int):=by omega);go_wp2_with fail;go_region;(obtain⟨u,f,bR,aC,s⟩:=(id ht.c:iQ w (U E t.nc C) 4 t.nc t.c).elim λa'⟨ci,e,_,h⟩=>by cases e;exact h (by omega));subst bR;(have k0:wr.cell? ⟨u,f+m.nx*4,J⟩=I (L O<|t.c<|4*m.nx):=by rw[o.cell (p:=⟨u,f+m.nx*4,J⟩)<|show u<_ by omega,x.cell (p:=⟨u,f+m.nx*4,J⟩) aC,s _<|by omega,bl]);(have k1:wr.cell? ⟨u,f+m.nx*4+1,J⟩=I (L O<|t.c<|4*m.nx+1):=by rw[o.cell (p:=⟨u,f+m.nx*4+1,J⟩)<|show u<_ by omega,x.cell (p:=⟨u,f+m.nx*4+1,J⟩) aC,bg,s _<|by omega,bl]);(have k2:wr.cell? ⟨u,f+m.nx*4+2,J⟩=I (L O<|t.c<|4*m.nx+2):=by rw[o.cell (p:=⟨u,f+m.nx*4+2,J⟩)<|show u<_ by omega,x.cell (p:=⟨u,f+m.nx*4+2,J⟩) aC,bg,s _<|by omega,bl]);(have k3:wr.cell? ⟨u,f+m.nx*4+3,J⟩=I (L O<|t.c<|4*m.nx+3):=by rw[o.cell (p:=⟨u,f+m.nx*4+3,J⟩)<|show u<_ by omega,x.cell (p:=⟨u,f+m.nx*4+3,J⟩) aC,bg,s _<|by omega,bl]);go_wp2_with fail;clear s;have A:=hm.drew;have a4:=o.drew;have q0:wr.drew.cell? ⟨u,f+m.nx*4,J⟩=_:=k0;have q1:wr.drew.cell? ⟨u,f+m.nx*4+1,J⟩=_:=k1;have q2:wr.drew.cell? ⟨u,f+m.nx*4+2,J⟩=_:=k2;have q3:wr.drew.cell? ⟨u,f+m.nx*4+3,J⟩=_:=k3;have q4:wr.drew.cell? ⟨w.heap.size+1+1+1,11,J⟩=_:=a7;have q5:wr.drew.cell? ⟨w.heap.size,3,J⟩=_:=bp;have be:Hid<|wr.cell? ⟨w.heap.size+1+1+1,11,J⟩=I (L O m.nx):=a7;clear k0 k1 k2 k3 a7 bp hm o;generalize wr.drew=wx at*;(have al:∀{p:ae}{v:Y},wx.cell? p=I v->(wx.alloc<|S #[L O 0,L O 0,L O 0,L O 0] 161).cell? p=I v:=λh=>by rw[World.cell?_alloc_lt _ _ _<|bm _ _ h];exact h);have p0:=al q0;have p1:=al q1;have p2:=al q2;have p3:=al q3;have p4:=al q4;have p5:=al q5;clear al;go_region;have aL:=(A.jr<|(aN _ _).alloc (aH _)<|S #[L O<|t.c<|4*m.nx,L O<|t.c<|4*m.nx+1,L O<|t.c<|4*m.nx+2,L O<|t.c<|4*m.nx+3] 161).drew;have bb:=(a4.alloc A.qP<|S #[L O<|t.c<|4*m.nx,L O<|t.c<|4*m.nx+1,L O<|t.c<|4*m.nx+2,L O<|t.c<|4*m.nx+3] 161).drew;(obtain⟨i0,i1,i2,i3⟩:Lo (wx.alloc<|S #[L O<|t.c<|4*m.nx,L O<|t.c<|4*m.nx+1,L O<|t.c<|4*m.nx+2,L O<|t.c<|4*m.nx+3] 161).drew wx.heap.size _ _ _ _:=by obtain⟨a0,a1,a2,a3⟩:=wI wx (t.c<|4*m.nx) (t.c<|4*m.nx+1) (t.c<|4*m.nx+2)<|t.c<|4*m.nx+3;exact⟨a0,a1,a2,a3⟩);(have bY:w.heap.size+1+1+1≠wx.heap.size:=by have:=A.lt;omega);clear p0 p1 p2 p3 p4 p5 q0 q1 q2 q3 q4 q5;generalize(wx.alloc<|S #[L O<|t.c<|4*m.nx,L O<|t.c<|4*m.nx+1,L O<|t.c<|4*m.nx+2,L O<|t.c<|4*m.nx+3] 161).drew=wy at*;generalize wx.heap.size=N8 at*;clear A a4;obtain⟨kk,aO,aw,a5⟩:=T.kind B;rw[aO]at i0;(have cn:wy.cell? ⟨w.heap.size+1+1+1,11,J⟩=I (L O m.nx):=by obtain⟨vC,D,-⟩:=aL.ex;exact D.cell (j:=11) (by omega));(have fz:∀j,wy.frozen? ⟨w.heap.size+1+1+1,j,J⟩=ah:=by obtain⟨vC,D,-⟩:=aL.ex;exact D.frozen);have bU:=T.keys.2.2.2.1;go_wp2_with fail;have bf:=(aL.Ln<|m.nx+1).drew;have aR:=(bb.setCell (p:=⟨w.heap.size+1+1+1,11,J⟩) (by show _<=w.heap.size+1+1+1;omega)<|L O ((m.nx+1:Nat):Int)).drew;simp only[Int.natCast_add,Int.cast_ofNat_Int]at bf aR;(have cs:(wy.setCell ⟨w.heap.size+1+1+1,11,J⟩<|L O<|(m.nx:Int)+1).cell? ⟨0,kk,J⟩=I (.func (.func<|zp kk) #[] #[]):=by have:=aR.cell (p:=⟨0,kk,J⟩) (show 0<_ by omega);refine Eq.trans this ?_;rw[x.cell (p:=⟨0,kk,J⟩) bt.1];exact bt.2 kk aw a5);have bo:=ht.below<|x.trans<|aR.mono (by omega);have hC:=aaG t T (w.heap.size+1+1) (w.heap.size+1+1+1) (w.heap.size+1+1) _ _ _ _ n {m with nx:=m.nx+1} _ bf bo W.NX (by have:=W.nx;omega) (by have h1:=W.len;have h2:=W.nx;show m.ch.length<=1000;omega) m.nx B;rw[aO]at hC;(have al:∀{p:ae}{v:Y},p.block=N8->wy.cell? p=I v->(wy.setCell ⟨w.heap.size+1+1+1,11,J⟩<|L O<|(m.nx:Int)+1).cell? p=I v:=λhp h=>by rw[<-h];exact World.cell?_of_block<|bB _ _ _ _ λe=>bY (by rw[<-hp,e]));have j0:=al rfl i0;have j1:=al rfl i1;have j2:=al rfl i2;have j3:=al rfl i3;clear al i0 i1 i2 i3 aL bb fz cn bo;(have ck:(0:Int)<=(kk:Int):=by omega);(have cf:(kk:Int)<11:=by omega);have ap:Hid<|py t (lV t m)/\m.nx<(lV t m).nx/\yf t (lV t m)=lu t l:=⟨(W.step T B).1,(W.step T B).2,(aad T W B)▸aB⟩;generalize(wy.setCell ⟨w.heap.size+1+1+1,11,J⟩<|L O<|(m.nx:Int)+1)=wz at*;have cv:=VX kk aw a5;go_region_with(refine hC.mono ?_;rintro e w7⟨rfl,h1,h2⟩);all_goals go_wp2_with fail;go_roundw;(case rel=>exact⟨n+1,lV t m,by have:=ap.out.2.1;omega,by unfold lV;rw[aO];exact h1,ap.out.1,ap.out.2.2,aR.trans h2⟩);case measure=>(have cb:jy w7 (w.heap.size+1+1) (w.heap.size+1+1+1) (w.heap.size+1+1) (U aa t.nr ac) (U Q t.nw P) (U K t.ng H) (U (I ⟨u,f,J⟩) t.nc C) (n+1)<|lV t m:=by unfold lV;rw[aO];exact h1);obtain⟨vC,D,-⟩:=cb.ex;have e1:w7.cell? ⟨w.heap.size+1+1+1,11,J⟩=I (L O ((lV t m).nx:Nat)):=D.cell (j:=11) (by omega);have e0:=ap.out.2.1;have e2:=ap.out.1.nx;rw[e1,be.out];simp[intOf];omega);. (have aS:¬(m.nx:Int)<(t.nc:Int):=by omega);go_wp2_with fail;go_region;obtain⟨vC,D,ho,cr,bQ⟩:=hm.ex;obtain⟨oa,oc,rfl⟩:=qR ho;have c0:wr.cell? ⟨w.heap.size+1+1+1,0,J⟩=I (M m.ab):=D.cell (j:=0) (by omega);have c1:wr.cell? ⟨w.heap.size+1+1+1,1,J⟩=I (L O<|m.r 0):=D.cell (j:=1) (by omega);have c2:wr.cell? ⟨w.heap.size+1+1+1,2,J⟩=I (L O<|m.r 1):=D.cell (j:=2) (by omega);have c3:wr.cell? ⟨w.heap.size+1+1+1,3,J⟩=I (L O<|m.r 2):=D.cell (j:=3) (by omega);have c4:wr.cell? ⟨w.heap.size+1+1+1,4,J⟩=I (L O<|m.r 3):=D.cell (j:=4) (by omega);have c5:wr.cell? ⟨w.heap.size+1+1+1,5,J⟩=I (U oa m.ch.length oc):=D.cell (j:=5) (by omega);have rE:=r1.below<|o.mono (by omega:w2.heap.size<=_);have g0:wr.cell? ⟨w.heap.size+1,0,J⟩=I (M ah):=rE.cell (j:=0) (by simp);have g1:wr.cell? ⟨w.heap.size+1,1,J⟩=I (L O 0):=rE.cell (j:=1) (by simp);have g2:wr.cell? ⟨w.heap.size+1,2,J⟩=I (L O 0):=rE.cell (j:=2) (by simp);have g3:wr.cell? ⟨w.heap.size+1,3,J⟩=I (L O 0):=rE.cell (j:=3) (by simp);have g4:wr.cell? ⟨w.heap.size+1,4,J⟩=I (L O 0):=rE.cell (j:=4) (by simp);have g5:wr.cell? ⟨w.heap.size+1,5,J⟩=I (U J 0 0):=rE.cell (j:=5) (by simp);have gf:=rE.frozen;go_wp2_with fail;(have bX:m=lu t l:=by rw[<-aB,Wa B]);subst bX;refine bodyPost_ret (v:=aI #[M (lu t l).ab,L O<|(lu t l).r 0,L O<|(lu t l).r 1,L O<|(lu t l).r 2,L O<|(lu t l).r 3,U oa (lu t l).ch.length oc]) (by simp[results,Tryz.results133,go_sem,g0,g1,g2,g3,g4,g5]) rfl ⟨_,rfl,?_,?_,?_⟩;(.rcases ho.2 with⟨e1,e2⟩|⟨g,cap,cu,e1,h4,h5,h6⟩;(.exact⟨ho.1,az ⟨e1,e2⟩⟩);.refine⟨ho.1,ay ⟨g,cap,cu,e1,by omega,?_,h6⟩⟩;show(World.setCell _ _ _).heap[g]?=_;(iterate 6 rw[bB _ _ _ _<|show g≠w.heap.size+1 by omega]);exact h5);(.refine bQ.move λg hg=>?_;have ct:=(ho.lt g hg).1;refine Eq.trans (S8 _ g)<|XQ (b:=w.heap.size+1) (show g≠w.heap.size+1 by omega) _ _ _ _ _ _);.exact(((((((x.trans<|o.mono<|by omega).setCell (by show _<=w.heap.size+1;omega) _).setCell (by show _<=w.heap.size+1;omega) _).setCell (by show _<=w.heap.size+1;omega) _).setCell (by show _<=w.heap.size+1;omega) _).setCell (by show _<=w.heap.size+1;omega) _).setCell (by show _<=w.heap.size+1;omega) _).drew
end
section
open Go.RowKit Go.Maps Go.Rel
def aei:Tryz.prog.follows .mixedOrders=aj:=by kernel_rfl
def oh{a:Act}{d:Nat}(v:Y)(h:d<a.tmps.size):(a.put (I d) v).tmps.getD d ak=v:=by rw[BV,if_pos ⟨rfl,h⟩]
section
variable(ev:Operand->Y)(w:z)(T:Nat)(d:Option Tmp)(ty:aD)(ps:String)(af:Array Edge)(g:Option<|Nat×Bool)(x x1 x2 x3 x4:Operand)
def XH(o:Nat)(h:ev x=V (I ⟨T,o,J⟩)):(execOp ev ⟨d,aP 131 x 1,ty,ps,af,g⟩).run Z w=q (ar<|V<|I ⟨T,o+1,J⟩) w:=by simp[execOp,go_sem,h]
def adt(o:Nat)(h:ev x=V (I ⟨T,o,J⟩)):(execOp ev ⟨d,aP 131 x 2,ty,ps,af,g⟩).run Z w=q (ar<|V<|I ⟨T,o+5,J⟩) w:=by simp[execOp,go_sem,h]
def aff(o:Nat)(h:ev x=V (I ⟨T,o,J⟩)):(execOp ev ⟨d,aP 125 x 0,ty,ps,af,g⟩).run Z w=q (ar<|V<|I ⟨T,o,J⟩) w:=by simp[execOp,go_sem,h]
def Xu(h:ev x=V (I ⟨T,0,J⟩)):(execOp ev ⟨d,aP 114 x 1,ty,ps,af,g⟩).run Z w=q (ar<|V<|I ⟨T,4,J⟩) w:=by simp[execOp,go_sem,h]
def Pq(h:ev x=V (I ⟨T,0,J⟩)):(execOp ev ⟨d,aP 173 x 0,ty,ps,af,g⟩).run Z w=q (ar<|V<|I ⟨T,0,J⟩) w:=by simp[execOp,go_sem,h]
def TA(h:ev x=V (I ⟨T,0,J⟩)):(execOp ev ⟨d,aP 173 x 2,ty,ps,af,g⟩).run Z w=q (ar<|V<|I ⟨T,2,J⟩) w:=by simp[execOp,go_sem,h]
def GG(o:Nat)(h:ev x=V (I ⟨T,o,J⟩)):(execOp ev ⟨d,.nilCheck x,ty,ps,af,g⟩).run Z w=q (ar<|V<|I ⟨T,o,J⟩) w:=by simp[execOp,go_sem,h]
def Wm(o:Nat)(t:aD)(n:Nat)(h:ev x=V (I ⟨T,o,J⟩))(a:w.cell? ⟨T,o,J⟩=I (aV t<|L O n)):(execOp ev ⟨d,.load 198 x,ty,ps,af,g⟩).run Z w=q (ar<|aV t<|L O n) w:=by simp[execOp,go_sem,h,a]
def IU(o:Nat)(v:Int)(h:ev x=V (I ⟨T,o,J⟩))(a:w.cell? ⟨T,o,J⟩=I (L O v)):(execOp ev ⟨d,.load 3 x,ty,ps,af,g⟩).run Z w=q (ar<|L O v) w:=by simp[execOp,go_sem,h,a]
def NH(o:Nat)(v:Option ae)(h:ev x=V (I ⟨T,o,J⟩))(a:w.cell? ⟨T,o,J⟩=I (V v)):(execOp ev ⟨d,.load 167 x,ty,ps,af,g⟩).run Z w=q (ar<|V v) w:=by simp[execOp,go_sem,h,a]
def Y2(o:Nat)(v:Option ae)(h:ev x=V (I ⟨T,o,J⟩))(a:w.cell? ⟨T,o,J⟩=I (V v)):(execOp ev ⟨d,.load 122 x,ty,ps,af,g⟩).run Z w=q (ar<|V v) w:=by simp[execOp,go_sem,h,a]
def Yn(o:Nat)(b:Option ae)(n p:Nat)(h:ev x=V (I ⟨T,o,J⟩))(a:w.cell? ⟨T,o,J⟩=I (U b n p)):(execOp ev ⟨d,.load 25 x,ty,ps,af,g⟩).run Z w=q (ar<|U b n p) w:=by simp[execOp,go_sem,h,a]
def QK(o:Nat)(b:Option ae)(n p:Nat)(h:ev x=V (I ⟨T,o,J⟩))(a:w.cell? ⟨T,o,J⟩=I (U b n p)):(execOp ev ⟨d,.load 26 x,ty,ps,af,g⟩).run Z w=q (ar<|U b n p) w:=by simp[execOp,go_sem,h,a]
def TH(o:Nat)(b a e c:Y)(h:ev x=V (I ⟨T,o,J⟩))(j:w.cell? ⟨T,o,J⟩=I b)(f:w.cell? ⟨T,o+1,J⟩=I a)(k:w.cell? ⟨T,o+2,J⟩=I e)(i:w.cell? ⟨T,o+3,J⟩=I c):(execOp ev ⟨d,.load 91 x,ty,ps,af,g⟩).run Z w=q (ar<|aI #[b,a,e,c]) w:=by simp[execOp,go_sem,h,j,f,k,i]
def aec(o n p i:Nat)(hi:i<n)(h:ev x=U (I ⟨T,o,J⟩) n p)(a:ev x1=L O i):(execOp ev ⟨d,.indexAddr 25 x x1,ty,ps,af,g⟩).run Z w=q (ar<|V<|I ⟨T,o+i*4,J⟩) w:=by simp[execOp,go_sem,h,a,hi]
def SH(b0 b1:Option ae)(n0 n1 c0 c1:Nat)(a:ev x=U b0 n0 c0)(b:ev x1=U b1 n1 c1):(execOp ev ⟨d,.buildSlice 31 2 #[(0,x),(1,x1)],ty,ps,af,g⟩).run Z w=q (ar<|U (I ⟨w.heap.size,0,J⟩) 2 2) (w.alloc<|S #[U b0 n0 c0,U b1 n1 c1] 26):=by simp[execOp,go_sem,a,b]
def RK(a:Act)(c b:Y)(t1 t2:aD)(h:a.eval x=c)(e:a.eval x1=b):(execOp a.eval ⟨d,aQ {callee:=.value<|aU 135,args:=#[x,x1],argTypes:=#[t1,t2]},ty,ps,af,g⟩).run Z w=q (aA 135 #[c,b]) w:=by subst h e;simp[go_sem]
def YT(a:Act)(b:Y)(t1:aD)(h:a.eval x=b):(execOp a.eval ⟨d,aQ {callee:=.value<|aU 134,args:=#[x],argTypes:=#[t1]},ty,ps,af,g⟩).run Z w=q (aA 134 #[b]) w:=by subst h;simp[go_sem]
def Qi(a:Act)(c b:Y)(t1 t2:aD)(h:a.eval x=c)(e:a.eval x1=b):(execOp a.eval ⟨d,aQ {callee:=.value<|aU 133,args:=#[x,x1],argTypes:=#[t1,t2]},ty,ps,af,g⟩).run Z w=q (aA 133 #[c,b]) w:=by subst h e;simp[go_sem]
end
structure Wk(w:z)(N off K e iz i lb lo nl lc:Nat)(kb:Option ae)(kn kc:Nat)(vT a b c d:Y)(t:iP)(kept:List<|Nat×Int)(l:List jw):Prop where
 cP:w.cell? ⟨N,0,none⟩=some (V<|some ⟨K,off,none⟩)
 cC:w.cell? ⟨N+2,0,none⟩=some (aV 1000000<|L O (1:Nat))
 cI:w.cell? ⟨N+3,0,none⟩=some (L O i)
 E3:w.cell? ⟨N+4,0,none⟩=some (L O iz)
 I0:w.cell? ⟨N+4,2,none⟩=some (U kb kn kc)
 yK:w.cell? ⟨K,off+1,none⟩=some (V<|some ⟨e,0,none⟩)
 zZ:w.cell? ⟨K,off+5+4,none⟩=some vT
 cL:w.cell? ⟨e,4,none⟩=some (U (some ⟨lb,lo,none⟩) nl lc)
 t0:w.cell? ⟨lb,lo+iz*4,none⟩=some a
 t1:w.cell? ⟨lb,lo+iz*4+1,none⟩=some b
 t2:w.cell? ⟨lb,lo+iz*4+2,none⟩=some c
 t3:w.cell? ⟨lb,lo+iz*4+3,none⟩=some d
 rT:lE w a b c d t
 rK:pA w (U kb kn kc) kept
 rP:uj w vT l
 st:Cb w
def Wk.below{w:z}{N off K e iz lb lo nl lc:Nat}{kn kc:Nat}{a b c d:Y}{t:iP}{kept:List<|Nat×Int}{l:List jw}(h:Wk w N off K e iz i lb lo nl lc R kn kc m a b c d t kept l)(f:Below w.heap.size w B):Wk B N off K e iz i lb lo nl lc R kn kc m a b c d t kept l:=by
 have k:∀{p:ae}{v:Y},w.cell? p=I v->B.cell? p=I v:=λj=>by rw[f.cell<|bm _ _ j];exact j
 exact⟨k h.cP,k h.cC,k h.cI,k h.E3,k h.I0,k h.yK,k h.zZ,k h.cL,k h.t0,k h.t1,k h.t2,k h.t3,h.rT.below f,h.rK.below f,h.rP.below f,h.st.below f h.st.1⟩
def RW(N off K e iz i lb lo nl lc:Nat)(l:Option ae)(kn kc:Nat)(a b c d:Y)(t:iP)(kept f:List<|Nat×Int)(k:Nat)(v:Y)(w:z):Prop:=match k with|0=>v=aV 1000000 (L O (1:Nat))|1=>v=L O i|2|3|16|17=>v=V (I ⟨K,off,J⟩)|4|5=>v=V (I ⟨K,off+1,J⟩)|6|7=>v=V (I ⟨e,0,J⟩)|8=>v=V (I ⟨e,4,J⟩)|9=>v=U (I ⟨lb,lo,J⟩) nl lc|10|19=>v=V (I ⟨N+4,0,J⟩)|11|20=>v=L O iz|12=>v=V (I ⟨lb,lo+iz*4,J⟩)|13=>v=aI #[a,b,c,d]|14=>v=V (I ⟨N+4,2,J⟩)|15=>v=U l kn kc|18=>v=V (I ⟨K,off+5,J⟩)|21=>pA w v f|22=>∃h vb,v=U (I ⟨h,0,J⟩) 2 2/\w.cell? ⟨h,0,J⟩=I (U l kn kc)/\w.cell? ⟨h,0+1,J⟩=I vb/\pA w vb f|23=>pA w v (kept++f)|24=>∃j B,v=aI #[M (lu t<|kept++f).ab,L O<|(lu t<|kept++f).r 0,L O<|(lu t<|kept++f).r 1,L O<|(lu t<|kept++f).r 2,L O<|(lu t<|kept++f).r 3,j]/\w.ownsRow B 229 3 j (lu t<|kept++f).ch.length (ov (lu t<|kept++f).ch)/\qk w j|_=>True
def RW.below{N off K e iz lb lo nl lc:Nat}{kn kc:Nat}{a b c d:Y}{t:iP}{kept r:List<|Nat×Int}{w:z}(j:Below w.heap.size w B)(k:Nat)(v:Y)(h:RW N off K e iz i lb lo nl lc R kn kc a b c d t kept r k v w):RW N off K e iz i lb lo nl lc R kn kc a b c d t kept r k v B:=by match k,h with|0,h|1,h|2,h|3,h|4,h|5,h|6,h|7,h|8,h|9,h|10,h|11,h|12,h|13,h|14,h|15,h|16,h|17,h|18,h|19,h|20,h=>exact h|21,h=>exact qL.below h j|22,h=>obtain⟨C,vb,o,f,l,m⟩:=h;exact⟨C,vb,o,by rw[j.cell<|bm _ _ f];exact f,by rw[j.cell<|bm _ _ l];exact l,qL.below m j⟩|23,h=>exact qL.below h j|24,h=>obtain⟨E,u,o,f,l⟩:=h;refine⟨E,u,o,?_,l.move λg D=>j.block g (f.lt g D).2⟩;rcases f.2 with A|⟨g,cap,n,rfl,m,p,s⟩;(.exact⟨f.1,az A⟩);.exact⟨f.1,ay ⟨g,cap,n,rfl,m,by rw[j.block g (aZ.1 p).1];exact p,s⟩⟩|_+25,h=>trivial
def CQ(m:Nat->jc)(i:Nat)(hd:List Y)(n:Nat)(cells:List Y):Prop:=hd=[M (m i).ab,L O<|(m i).r 0,L O<|(m i).r 1,L O<|(m i).r 2,L O<|(m i).r 3]/\n=(m i).ch.length/\cells.take (n*3)=ov (m i).ch
def EW:(nU.extract 0 25).size=25:=by kernel_rfl
def oO{l:Array Edge}{k:Nat}(h:(l.toList.any λc=>c.on==k&&(match c.ground with|ai=>aj|_=>ah))=aj):(⟨k,ai⟩:Edge)∈l:=by obtain⟨c,e,f⟩:=List.any_eq_true.1 h;obtain⟨a,b⟩:=c;grind
def getD_some{T:Array Y}{k:Nat}(h:T.getD k ak=m)(hk:k<T.size):T[k]?=I m:=by simp_all
def Zf(okW:iO)(aC:okW.jX=1000000)(n i:Nat)(aw:i<n)(ms:Nat->jc)(N off K e iz lb lo nl lc:Nat)(kb:Option ae)(kn kc:Nat)(vT a b c d:Y)(t:iP)(T:pk t)(kept:List<|Nat×Int)(l:List jw)(w:z)(h:Wk w N off K e iz i lb lo nl lc kb kn kc vT a b c d t kept l)(ht:iz<nl)(hk:∀p∈kept++lf iz l,p.1<100/\ji p.2)(hl:l.length<=100)(am:∀p∈l,p.ps.length<=100)(aL:kept.length<=100)(hm:ms i=lu t (kept++lf iz l)):(Code.region 1 (nU.extract 0 25) aj).wp Z (λe a w=>e=.normal/\It okW n (AE<|CQ ms) i a w) ⟨ug ax (V<|I ⟨N,0,J⟩) (V<|I ⟨N+4,0,J⟩) (V<|I ⟨N+2,0,J⟩)<|V<|I ⟨N+3,0,J⟩,[]⟩ w:=by
 have aO:(lf iz l).length<=10000:=bz (OE iz l am) (by omega);refine Hx (P:=Z) _ aei (by kernel_rfl) (λwx=>Below w.heap.size w wx) (λk s wx=>RW N off K e iz i lb lo nl lc kb kn kc a b c d t kept (lf iz l) k (s k) wx) ?hloc ?hF ?hob ?hend;case hF=>exact(aN _ _).drew
 case hloc=>intro k s s' wx hs hR;by_cases hk:k<25;(.obtain⟨o,m⟩:∃o,(nU.extract 0 25)[k]?=I o:=⟨_,Array.getElem?_eq_getElem<|show k<(nU.extract 0 25).size from hk⟩;grind);.obtain⟨j,rfl⟩:=Nat.exists_eq_add_of_le<|bw hk;rw[Nat.add_comm];trivial
 case hob=>intro io o m A C D hS f;have u:A.tmps.size=31:=hS.size;have e1:A.eval (ao 1)=V (I ⟨N,0,J⟩):=hS.out 1<|tX (by kernel_rfl);have e2:=hS.out 2<|tX (by kernel_rfl);have e3:A.eval (ao 3)=V (I ⟨N+2,0,J⟩):=hS.out 3<|tX (by kernel_rfl);have e4:=hS.out 4<|tX (by kernel_rfl);have E:=h.below D;have Q:w.heap.size<=C.heap.size:=D.size;match io,m,f with|0,m,f=>obtain rfl:=F<|show I _=I o from m;exact j7 (Wm A.eval C _ _ _ _ _ _ _ _ _ _ e3 E.cC) ⟨D,λk s _ h=>h,_,rfl,oh _<|by rw[u];decide⟩|1,m,f=>obtain rfl:=F<|show I _=I o from m;exact j7 (IU A.eval C _ _ _ _ _ _ _ _ _ e4 E.cI) ⟨D,λk s _ h=>h,_,rfl,oh _<|by rw[u];decide⟩|2,m,f=>obtain rfl:=F<|show I _=I o from m;exact j7 (NH A.eval C _ _ _ _ _ _ _ _ _ e1 E.cP) ⟨D,λk s _ h=>h,_,rfl,oh _<|by rw[u];decide⟩|3,m,f=>obtain rfl:=F<|show I _=I o from m;exact j7 (GG A.eval C _ _ _ _ _ _ _ _<|f ⟨2,ai⟩ (oO rfl) rfl) ⟨D,λk s _ h=>h,_,rfl,oh _<|by rw[u];decide⟩|4,m,f=>obtain rfl:=F<|show I _=I o from m;exact j7 (XH A.eval C _ _ _ _ _ _ _ _<|f ⟨3,ai⟩ (oO rfl) rfl) ⟨D,λk s _ h=>h,_,rfl,oh _<|by rw[u];decide⟩|5,m,f=>obtain rfl:=F<|show I _=I o from m;exact j7 (aff A.eval C _ _ _ _ _ _ _ _<|f ⟨4,ai⟩ (oO rfl) rfl) ⟨D,λk s _ h=>h,_,rfl,oh _<|by rw[u];decide⟩|6,m,f=>obtain rfl:=F<|show I _=I o from m;exact j7 (Y2 A.eval C _ _ _ _ _ _ _ _ _ (f ⟨5,ai⟩ (oO rfl) rfl) E.yK) ⟨D,λk s _ h=>h,_,rfl,oh _<|by rw[u];decide⟩|7,m,f=>obtain rfl:=F<|show I _=I o from m;exact j7 (GG A.eval C _ _ _ _ _ _ _ _<|f ⟨6,ai⟩ (oO rfl) rfl) ⟨D,λk s _ h=>h,_,rfl,oh _<|by rw[u];decide⟩|8,m,f=>obtain rfl:=F<|show I _=I o from m;exact j7 (Xu A.eval C _ _ _ _ _ _ _<|f ⟨7,ai⟩ (oO rfl) rfl) ⟨D,λk s _ h=>h,_,rfl,oh _<|by rw[u];decide⟩|9,m,f=>obtain rfl:=F<|show I _=I o from m;exact j7 (Yn A.eval C _ _ _ _ _ _ _ _ _ _ _ (f ⟨8,ai⟩ (oO rfl) rfl) E.cL) ⟨D,λk s _ h=>h,_,rfl,oh _<|by rw[u];decide⟩|10,m,f=>obtain rfl:=F<|show I _=I o from m;exact j7 (Pq A.eval C _ _ _ _ _ _ _ e2) ⟨D,λk s _ h=>h,_,rfl,oh _<|by rw[u];decide⟩|11,m,f=>obtain rfl:=F<|show I _=I o from m;exact j7 (IU A.eval C _ _ _ _ _ _ _ _ _ (f ⟨10,ai⟩ (oO rfl) rfl) E.E3) ⟨D,λk s _ h=>h,_,rfl,oh _<|by rw[u];decide⟩|12,m,f=>obtain rfl:=F<|show I _=I o from m;exact j7 (aec A.eval C _ _ _ _ _ _ _ _ _ _ _ _ ht (f ⟨9,ai⟩ (oO rfl) rfl)<|f ⟨11,ai⟩ (oO rfl) rfl) ⟨D,λk s _ h=>h,_,rfl,oh _<|by rw[u];decide⟩|13,m,f=>obtain rfl:=F<|show I _=I o from m;exact j7 (TH A.eval C _ _ _ _ _ _ _ _ _ _ _ _ (f ⟨12,ai⟩ (oO rfl) rfl) E.t0 E.t1 E.t2 E.t3) ⟨D,λk s _ h=>h,_,rfl,oh _<|by rw[u];decide⟩|14,m,f=>obtain rfl:=F<|show I _=I o from m;exact j7 (TA A.eval C _ _ _ _ _ _ _ e2) ⟨D,λk s _ h=>h,_,rfl,oh _<|by rw[u];decide⟩|15,m,f=>obtain rfl:=F<|show I _=I o from m;exact j7 (QK A.eval C _ _ _ _ _ _ _ _ _ _ _ (f ⟨14,ai⟩ (oO rfl) rfl) E.I0) ⟨D,λk s _ h=>h,_,rfl,oh _<|by rw[u];decide⟩|16,m,f=>obtain rfl:=F<|show I _=I o from m;exact j7 (NH A.eval C _ _ _ _ _ _ _ _ _ e1 E.cP) ⟨D,λk s _ h=>h,_,rfl,oh _<|by rw[u];decide⟩|17,m,f=>obtain rfl:=F<|show I _=I o from m;exact j7 (GG A.eval C _ _ _ _ _ _ _ _<|f ⟨16,ai⟩ (oO rfl) rfl) ⟨D,λk s _ h=>h,_,rfl,oh _<|by rw[u];decide⟩|18,m,f=>obtain rfl:=F<|show I _=I o from m;exact j7 (adt A.eval C _ _ _ _ _ _ _ _<|f ⟨17,ai⟩ (oO rfl) rfl) ⟨D,λk s _ h=>h,_,rfl,oh _<|by rw[u];decide⟩|19,m,f=>obtain rfl:=F<|show I _=I o from m;exact j7 (Pq A.eval C _ _ _ _ _ _ _ e2) ⟨D,λk s _ h=>h,_,rfl,oh _<|by rw[u];decide⟩|20,m,f=>obtain rfl:=F<|show I _=I o from m;exact j7 (IU A.eval C _ _ _ _ _ _ _ _ _ (f ⟨19,ai⟩ (oO rfl) rfl) E.E3) ⟨D,λk s _ h=>h,_,rfl,oh _<|by rw[u];decide⟩|21,m,f=>obtain rfl:=F<|show I _=I o from m;refine Ck (RK C _ _ _ _ _ _ _ A _ _ _ _ (f ⟨18,ai⟩ (oO rfl) rfl)<|f ⟨20,ai⟩ (oO rfl) rfl) (QA K (off+5) iz vT l C E.zZ E.rP (by omega) am) ?_;rintro r R⟨v,rfl,G,W⟩;exact⟨_,rfl,D.trans<|W.mono Q,λk s _ h=>RW.below W k _ h,_,rfl,by show pA R ((A.put (I 26) v).tmps.getD 26 ak) _;rw[oh _<|by rw[u];decide];exact Ft G<|Gw _⟩|22,m,f=>obtain rfl:=F<|show I _=I o from m;have av:=f ⟨21,ai⟩ (oO rfl) rfl;obtain⟨ba,bc,qe,_⟩:=id<|show pA C _ (lf iz l)from av;have qb:=(show pA C _ (lf iz l)from av);rw[qe]at qb;have ad:Below C.heap.size C<|C.alloc<|S #[U kb kn kc,U ba (lf iz l).length bc] 26:=(aN _ _).alloc (aH _) _;have X:=km C [U kb kn kc,U ba (lf iz l).length bc] 26;refine j7 (SH A.eval C _ _ _ _ _ _ _ _ _ _ _ _ _ (f ⟨15,ai⟩ (oO rfl) rfl) qe) ⟨D.trans<|ad.mono Q,λk s _ h=>RW.below ad k _ h,_,rfl,?_⟩;exact⟨C.heap.size,_,oh _<|by rw[u];decide,X.cell (j:=0)<|by simp,X.cell (j:=1)<|by simp,qb.below ad⟩|23,m,f=>obtain rfl:=F<|show I _=I o from m;obtain⟨b',vb,q1,q2,q3,q4⟩:=f ⟨22,ai⟩ (oO rfl) rfl;refine Ck (YT C _ _ _ _ _ _ A _ _ q1) (aaD b' 0 _ _ kept (lf iz l) C q2 q3 E.rK q4 (by omega)<|by omega) ?_;rintro r R⟨v,rfl,G,W⟩;exact⟨_,rfl,D.trans<|W.mono Q,λk s _ h=>RW.below W k _ h,_,rfl,by show pA R ((A.put (I 28) v).tmps.getD 28 ak) _;rw[oh _<|by rw[u];decide];exact Ft G<|Gw _⟩|24,m,f=>obtain rfl:=F<|show I _=I o from m;have av:=(show pA C _ (kept++lf iz l)from f ⟨23,ai⟩ (oO rfl) rfl);refine Ck (Qi C _ _ _ _ _ _ _ A _ _ _ _ (f ⟨13,ai⟩ (oO rfl) rfl) rfl) (afM t T a b c d _ (kept++lf iz l) C E.st E.rT av hk<|by grind) ?_;rintro r R⟨vC,rfl,G,aa,W⟩;exact⟨_,rfl,D.trans<|W.mono Q,λk s _ h=>RW.below W k _ h,_,rfl,vC,C.heap.size,oh _<|by rw[u];decide,G,aa⟩|_+25,m,f=>have h1:=(aZ.1 m).1;rw[EW]at h1;omega
 case hend=>intro A C D hS H;have u:A.tmps.size=31:=hS.size;have s5:A.tmps.getD 5 ak=_:=H 0 (by rw[EW];omega);have s6:A.tmps.getD 6 ak=_:=H 1 (by rw[EW];omega);obtain⟨vC,B,aB,m,aa⟩:=H 24 (by rw[EW];omega);refine⟨rfl,hS.defers,u,by simp_all,getD_some s6<|by omega,_,getD_some aB<|by omega,rfl,?_,aw,?_⟩;(.intro v G;simp at G;rcases G with rfl|rfl|rfl|rfl|rfl|rfl<;>first|rfl|(rcases m.2 with⟨rfl,_⟩|⟨g,cap,ac,rfl,_⟩<;>rfl));.rcases m.2 with⟨rfl,h0⟩|⟨g,cap,ac,rfl,h4,h5,h6,h7,h8,h9⟩;(.refine⟨[M (lu t<|kept++lf iz l).ab,L O<|(lu t<|kept++lf iz l).r 0,L O<|(lu t<|kept++lf iz l).r 1,L O<|(lu t<|kept++lf iz l).r 2,L O<|(lu t<|kept++lf iz l).r 3],0,0,[],J,rfl,rfl,?_,⟨by rw[hm],by rw[hm,h0],?_⟩,by simp,λ_=>rfl,λcb al=>by cases al⟩;(.intro v G;simp at G;rcases G with rfl|rfl|rfl|rfl|rfl<;>trivial);.rw[hm,List.eq_nil_of_length_eq_zero h0];rfl);.obtain⟨hz,ap⟩:=aa g ac 229 (0,0) rfl h5;refine⟨[M (lu t<|kept++lf iz l).ab,L O<|(lu t<|kept++lf iz l).r 0,L O<|(lu t<|kept++lf iz l).r 1,L O<|(lu t<|kept++lf iz l).r 2,L O<|(lu t<|kept++lf iz l).r 3],_,cap,ac.toList,I g,rfl,rfl,?_,⟨by rw[hm],by rw[hm],?_⟩,?_,λhh=>(by cases hh),λcb al=>?_⟩;(.intro v G;simp at G;rcases G with rfl|rfl|rfl|rfl|rfl<;>trivial);(.rw[hm];exact h9);(.intro v G;have:=ap v G;cases v<;>first|trivial|exact this.elim);.cases al;exact⟨by simpa using h5,λhh=>hz<|by simp_all⟩
end
end Go.Proofs.YtldeiiffabfmeaaGreatDoor
