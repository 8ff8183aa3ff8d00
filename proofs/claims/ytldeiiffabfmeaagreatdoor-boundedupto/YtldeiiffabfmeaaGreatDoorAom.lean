/- - -/
import Derived.Test.YtldeiiffabfmeaaGreatDoorRows
import Derived.Deep.Slices
import Derived.Carry
import Derived.ProofKit
import Derived.OpenShut
import Derived.JoinedCond
import Derived.Test.YtldeiiffabfmeaaGreatDoorAnm
set_option linter.all false
set_option maxRecDepth 100000
set_option maxHeartbeats 4000000
open Option renaming some->ae,none->ai,getD_some->aq,map_some->bP
open Go.Act renaming put->ah
open Go renaming undef->aj,World->an,Value->ao,Operand->aM,MemPlace->aX,DataW->bh,TypeId->bq,Addr->bG,Program->cj,Oper->cz,YieldsIf->cA
open Go.Proofs.Tryz renaming prog->ak,f14->aG,underlying22->bl,underlying25->bH,underlying42->bI,underlying3->bK
open Go.Proofs.YtldeiiffabfmeaaGreatDoor.Rows renaming uptoBulk->ar,uptoBulkAll->aE
open Bool renaming true->au,and_eq_true->aN,false->aV
open Go.World renaming cell?_of_block->ax,block_lt_of_cell?->aA,cells?_some->bj,frozen?_of_block->bm,cell?->bC,cell?_spot->bM
open Nat renaming lt_of_lt_of_le->ay,add_assoc->aD,le_refl->aU,mul_comm->aW,eq_zero_or_pos->bd,le_trans->bn,zero_le->bA,sub_zero->ck,zero_mul->cx
open Go.DataW renaming trod->az,trod_struct->aH,trod_int->bV
open Go.RowKit.Below renaming heap_setCell->aF,heap_alloc->bJ,refl->bR
open List renaming range->aI,getElem?_eq_some_iff->aP,getElem?_eq_getElem->aQ,getD_eq_getElem?_getD->aZ,extract_eq_take_drop->bg,mem_map->bu,extract_toArray->bB,take_succ_cons->bE,getElem?_take->bF,range_succ->bO,length_map->bQ,take_zero->bT,drop_zero->bU,mem_range->bX,mem_cons->bY
open Array renaming getElem?_eq_some_iff->aJ,mem_of_getElem?->bz
open Go.WideShapes renaming add_plain->aK,okWide_struct->cg
open Go.Lit renaming int->aY
open Go.Deep renaming open_slice->bw
open Go.Value renaming agg->bD,slice->bN,bool->cD,int->cE
namespace Go.Rel
section
open Go.RowKit
section
variable{P:cj}{ops:Array cz}{Q:Exit->Act->an->Prop}{S:an->Prop}
theorem aha{id n:Nat}{tail:List Nat}{w:an}{a:Act}(g:P.follows .mixedOrders=au)(hcut:uF (P.follows .mixedOrders) ops n tail)(j:n<=ops.size)(m:(ops.toList.all λo=>o.guard.isNone)=au)(h:wpAnyH P .any (ops.extract 0 n) (Exit.then (wpOps P ops Q tail) Q) S n (Array.replicate n aV) a {w with drawn:=w.drawn+1}):(Code.region id ops au).wp P Q a w:=by
 have b:∀(i:Nat)o,ops[i]?=ae o->o.guard=ai:=by intro i o k;have:=List.all_eq_true.1 m o (by simpa using bz k);cases c:o.guard with|none=>rfl|some x=>rw[c]at this;cases this
 have d:(ops.extract 0 n).size=n:=by simp;omega
 refine wp_region_draw λt=>?_;obtain⟨f,e,l⟩:=JF hcut t;rw[e];refine Gu j b _ _ _ l ?_;simp only[Region.schedule,g,Bool.true_or,if_true];refine wpAny_sound _ f _ a _ (wpAny_of_held (S:=S) _ _ _ _ ?_);rw[d];exact h
theorem Dq{o:cz}{a:Act}{v:ao}(b:o.guard=ai)(h:∀w,S w->(execOp a.eval o).run P w=.ok (.value v) w):cA P ops S o v a:=.inl ⟨vD b,h⟩
theorem Rm{o:cz}{a:Act}{x:aM}{v:ao}(d:o.guard=ai)(b:o.op=.move x)(c:a.eval x=v):cA P ops S o v a:=Dq d λw _=>by unfold execOp;simp only[b];subst c;simp[go_sem]
theorem Qa{o:cz}{a:Act}{x:aM}{ad:bG}(d:o.guard=ai)(b:o.op=.nilCheck x)(c:a.eval x=.pointer (ae ad)):cA P ops S o (.pointer (ae ad)) a:=Dq d λw _=>by unfold execOp;simp only[b,c];simp[go_sem]
end
end
end Go.Rel
namespace Go.Proofs.YtldeiiffabfmeaaGreatDoor
section
open Go.RowKit Go.Maps Go.Rel Go.Sort
theorem Tryz.adi:(Tryz.prog.info? 4).map (λi=>(i.zero,i.size,i.bytes))=ae (ae (.bool aV),1,1):=by kernel_rfl
theorem Tryz.ahB:(Tryz.prog.info? 73).map (λi=>(i.zero,i.size,i.bytes))=ae (ae (.agg #[.int .i64 0,.int .i64 0,.int .i64 0,.int .i64 0]),4,32):=by kernel_rfl
def Stop(p:Prop):Prop:=p
theorem Y5{p:Prop}(h:Stop p):p:=h
theorem Yb:nu=.region 17 (jP nu) au:=by kernel_rfl
theorem OH{o:cz}(ev:aM->ao)(w:an){x:aM}(a:o.op=.fieldAddr 65 x 4)(G:Nat)(h:ev x=.pointer (ae ⟨G,0,ai⟩)):(execOp ev o).run ak w=.ok (.value (.pointer (ae ⟨G,208,ai⟩))) w:=by unfold execOp;simp only[a,h];simp[go_sem]
theorem ZB{o:cz}(ev:aM->ao)(w:an){x:aM}(c:o.op=.load 62 x)(G k:Nat)(b:Option bG)(n p:Nat)(h:ev x=.pointer (ae ⟨G,k,ai⟩))(a:w.cell? ⟨G,k,ai⟩=ae (.slice b n p)):(execOp ev o).run ak w=.ok (.value (.slice b n p)) w:=by unfold execOp;simp only[c,h];simp[go_sem,a]
theorem Tz{o:cz}(ev:aM->ao)(w:an){x y:aM}(c:o.op=.store 62 x y)(G k:Nat)(b:Option bG)(n p:Nat)(old:ao)(h:ev x=.pointer (ae ⟨G,k,ai⟩))(a:ev y=.slice b n p)(e:w.cell? ⟨G,k,ai⟩=ae old)(d:w.frozen? ⟨G,k,ai⟩=aV):(execOp ev o).run ak w=.ok .skip (w.setCell ⟨G,k,ai⟩ (.slice b n p)):=by unfold execOp;simp only[c,h,a];simp[go_sem,e,d]
theorem aeP{o:cz}(ev:aM->ao)(w:an){x:aM}(a:o.op=.buildSlice 62 1 #[(0,x)])(r0 r1 r2 r3:Int)(h:ev x=.agg #[.int .i64 r0,.int .i64 r1,.int .i64 r2,.int .i64 r3]):(execOp ev o).run ak w=.ok (.value (.slice (ae ⟨w.heap.size,0,ai⟩) 1 1)) (w.alloc (.cells #[.int .i64 r0,.int .i64 r1,.int .i64 r2,.int .i64 r3] 73)):=by unfold execOp;simp only[a];simp[go_sem,h]
section
variable(w:an)(N G i:Nat)
theorem YZ(a:Act)(J B n:Nat)(ab:Bool)(v:ao)(xs:List ao)(r:Nat->Int)(hA:kZ N G a)(aw:a.tmps.getD 11 aj=.int .i64 (i:Nat))(az:a.tmps.getD 13 aj=.pointer (ae ⟨J,0,ai⟩))(ap:a.tmps.getD 14 aj=.bool ab)(m:w.cell? ⟨G,208,ai⟩=ae v)(hf:w.frozen? ⟨G,208,ai⟩=aV)(aB:ae G≠v.ownBlock)(aa:w.rangeAt J 0 (kh r))(aJ:ae J≠v.ownBlock)(aR:B<=w.heap.size)(hn:n<=100)(V:w.ownsRow B 73 4 v n xs):nu.wp ak (λex s w'=>ex=.normal/\(kZ N G s/\s.tmps.getD 11 aj=.int .i64 (i:Nat)/\s.tmps.getD 14 aj=.bool ab)/\∃(v':ao)(w1:an),w1.ownsRow B 73 4 v' (n+1) (xs++kh r)/\(w.heap.size<=w1.heap.size/\∀b,b<w.heap.size->ae b≠v.ownBlock->w1.heap[b]?=w.heap[b]?)/\w'=w1.setCell ⟨G,208,ai⟩ v') a w:=by
 obtain⟨g1,g2,g3,g4⟩:=hA;obtain⟨i0,aK,aE,aL,aF⟩:=info_parts Tryz.ahB;obtain⟨F,f,rfl⟩:=sw V;have aN:G<w.heap.size:=aA _ _ m;have aS:J<w.heap.size:=aA _ _ (aa 0 (.int .i64 (r 0)) rfl);rw[Yb];refine aha (n:=10) (tail:=[10]) (S:=λw'=>w'.cell? ⟨G,208,ai⟩=ae (.slice F n f)/\w'.rangeAt J 0 (kh r)) (by kernel_rfl) (AM (by kernel_rfl) _) (by decide) (by kernel_rfl) ?_;have aG:({w with drawn:=w.drawn+1}:an).heap=w.heap:=rfl;have m':({w with drawn:=w.drawn+1}:an).cell? ⟨G,208,ai⟩=ae (.slice F n f):=m;have M:({w with drawn:=w.drawn+1}:an).rangeAt J 0 (kh r):=aa;have am:({w with drawn:=w.drawn+1}:an).ownsRow B 73 4 (.slice F n f) n xs:=V;generalize({w with drawn:=w.drawn+1}:an)=w1 at*;have U:∀{Y:Exit->Act->an->Prop}{X:Act->an->Prop}{d:Option Tmp}{u:ao},(∀ex a w,Y ex a w->ex=.normal)->∀c a w,(Exit.then X Y) (.panic c) (ah a d u) w->(Exit.then X Y) (.panic c) a w:=λhY c a w h=>absurd (hY _ _ _ h) (by simp);replace U:∀{X:Act->an->Prop}{d:Option Tmp}{u:ao},∀c a w',(Exit.then X (λex s w'=>ex=.normal/\(kZ N G s/\s.tmps.getD 11 aj=.int .i64 (i:Nat)/\s.tmps.getD 14 aj=.bool ab)/\∃(v':ao)(w1:an),w1.ownsRow B 73 4 v' (n+1) (xs++kh r)/\(w.heap.size<=w1.heap.size/\∀b,b<w.heap.size->ae b≠(bN F n f).ownBlock->w1.heap[b]?=w.heap[b]?)/\w'=w1.setCell ⟨G,208,ai⟩ v')) (.panic c) (ah a d u) w'->_:=U (λex a w' h=>h.1);obtain⟨d0,d1,d2,d3,d4,d5,d6,d7,d8,d9⟩:(opAt (opsL nu) 0).dst=ae 131/\(opAt (opsL nu) 1).dst=ae 132/\(opAt (opsL nu) 2).dst=ae 133/\(opAt (opsL nu) 3).dst=ae 134/\(opAt (opsL nu) 4).dst=ae 135/\(opAt (opsL nu) 5).dst=ae 136/\(opAt (opsL nu) 6).dst=ae 137/\(opAt (opsL nu) 7).dst=ae 138/\(opAt (opsL nu) 8).dst=ae 139/\(opAt (opsL nu) 9).dst=ae 140:=⟨by kernel_rfl,by kernel_rfl,by kernel_rfl,by kernel_rfl,by kernel_rfl,by kernel_rfl,by kernel_rfl,by kernel_rfl,by kernel_rfl,by kernel_rfl⟩;obtain⟨o6,o7,aD⟩:((jP nu).extract 0 10)[6]?=ae (opAt (opsL nu) 6)/\((jP nu).extract 0 10)[7]?=ae (opAt (opsL nu) 7)/\(jP nu)[10]?=ae (opAt (opsL nu) 10):=⟨by kernel_rfl,by kernel_rfl,by kernel_rfl⟩;have P:(opAt (opsL nu) 10).dst=ai:=by kernel_rfl
 obtain⟨k6,k7,aH⟩:(opAt (opsL nu) 6).guard=ai/\(opAt (opsL nu) 7).guard=ai/\(opAt (opsL nu) 10).guard=ai:=⟨by kernel_rfl,by kernel_rfl,by kernel_rfl⟩;have e:=g1;have q:=g2;have K:a.tmps.getD 1 aj=.pointer (ae ⟨N,0,ai⟩):=g3;have I:a.tmps.getD 9 aj=.pointer (ae ⟨G,0,ai⟩):=g4;have z:a.tmps.getD 11 aj=.int .i64 (i:Nat):=aw;have t:a.tmps.getD 13 aj=.pointer (ae ⟨J,0,ai⟩):=az;have p:a.tmps.getD 14 aj=.bool ab:=ap;refine wpAnyH_take (i:=0) (oi:=opAt (opsL nu) 0) (v:=.pointer (ae ⟨G,0,ai⟩)) (by kernel_rfl) (by kernel_rfl) (by kernel_rfl) (by kernel_rfl) U (Rm (x:=.tmp 9) (by kernel_rfl) (by kernel_rfl) I) ⟨m',M⟩ ?_;rw[d0];replace e:(ah a (ae 131) (.pointer (ae ⟨G,0,ai⟩))).tmps.size=152:=by rw[ko];exact e
 replace q:(ah a (ae 131) (.pointer (ae ⟨G,0,ai⟩))).defers=[]:=by rw[put_defers];exact q
 replace K:(ah a (ae 131) (.pointer (ae ⟨G,0,ai⟩))).tmps.getD 1 aj=.pointer (ae ⟨N,0,ai⟩):=by rw[iL _ (by decide)];exact K
 replace I:(ah a (ae 131) (.pointer (ae ⟨G,0,ai⟩))).tmps.getD 9 aj=.pointer (ae ⟨G,0,ai⟩):=by rw[iL _ (by decide)];exact I
 replace z:(ah a (ae 131) (.pointer (ae ⟨G,0,ai⟩))).tmps.getD 11 aj=.int .i64 (i:Nat):=by rw[iL _ (by decide)];exact z
 replace t:(ah a (ae 131) (.pointer (ae ⟨G,0,ai⟩))).tmps.getD 13 aj=.pointer (ae ⟨J,0,ai⟩):=by rw[iL _ (by decide)];exact t
 replace p:(ah a (ae 131) (.pointer (ae ⟨G,0,ai⟩))).tmps.getD 14 aj=.bool ab:=by rw[iL _ (by decide)];exact p
 have k:(ah a (ae 131) (.pointer (ae ⟨G,0,ai⟩))).tmps.getD 131 aj=.pointer (ae ⟨G,0,ai⟩):=mF _ (by rw[ko]at e;rw[e];decide);clear g1 g2 g3 g4 aw az ap;generalize(ah a (ae 131) (.pointer (ae ⟨G,0,ai⟩)))=a at*;refine wpAnyH_take (i:=1) (oi:=opAt (opsL nu) 1) (v:=.pointer (ae ⟨G,0,ai⟩)) (by kernel_rfl) (by kernel_rfl) (by kernel_rfl) (by kernel_rfl) U (Rm (x:=.tmp 9) (by kernel_rfl) (by kernel_rfl) I) ⟨m',M⟩ ?_;rw[d1];replace e:(ah a (ae 132) (.pointer (ae ⟨G,0,ai⟩))).tmps.size=152:=by rw[ko];exact e
 replace q:(ah a (ae 132) (.pointer (ae ⟨G,0,ai⟩))).defers=[]:=by rw[put_defers];exact q
 replace K:(ah a (ae 132) (.pointer (ae ⟨G,0,ai⟩))).tmps.getD 1 aj=.pointer (ae ⟨N,0,ai⟩):=by rw[iL _ (by decide)];exact K
 replace I:(ah a (ae 132) (.pointer (ae ⟨G,0,ai⟩))).tmps.getD 9 aj=.pointer (ae ⟨G,0,ai⟩):=by rw[iL _ (by decide)];exact I
 replace z:(ah a (ae 132) (.pointer (ae ⟨G,0,ai⟩))).tmps.getD 11 aj=.int .i64 (i:Nat):=by rw[iL _ (by decide)];exact z
 replace t:(ah a (ae 132) (.pointer (ae ⟨G,0,ai⟩))).tmps.getD 13 aj=.pointer (ae ⟨J,0,ai⟩):=by rw[iL _ (by decide)];exact t
 replace p:(ah a (ae 132) (.pointer (ae ⟨G,0,ai⟩))).tmps.getD 14 aj=.bool ab:=by rw[iL _ (by decide)];exact p
 replace k:(ah a (ae 132) (.pointer (ae ⟨G,0,ai⟩))).tmps.getD 131 aj=.pointer (ae ⟨G,0,ai⟩):=by rw[iL _ (by decide)];exact k
 have l:(ah a (ae 132) (.pointer (ae ⟨G,0,ai⟩))).tmps.getD 132 aj=.pointer (ae ⟨G,0,ai⟩):=mF _ (by rw[ko]at e;rw[e];decide);generalize(ah a (ae 132) (.pointer (ae ⟨G,0,ai⟩)))=a at*;refine wpAnyH_take (i:=2) (oi:=opAt (opsL nu) 2) (v:=.pointer (ae ⟨G,0,ai⟩)) (by kernel_rfl) (by kernel_rfl) (by kernel_rfl) (by kernel_rfl) U (Qa (x:=.tmp 132) (by kernel_rfl) (by kernel_rfl) l) ⟨m',M⟩ ?_;rw[d2];replace e:(ah a (ae 133) (.pointer (ae ⟨G,0,ai⟩))).tmps.size=152:=by rw[ko];exact e
 replace q:(ah a (ae 133) (.pointer (ae ⟨G,0,ai⟩))).defers=[]:=by rw[put_defers];exact q
 replace K:(ah a (ae 133) (.pointer (ae ⟨G,0,ai⟩))).tmps.getD 1 aj=.pointer (ae ⟨N,0,ai⟩):=by rw[iL _ (by decide)];exact K
 replace I:(ah a (ae 133) (.pointer (ae ⟨G,0,ai⟩))).tmps.getD 9 aj=.pointer (ae ⟨G,0,ai⟩):=by rw[iL _ (by decide)];exact I
 replace z:(ah a (ae 133) (.pointer (ae ⟨G,0,ai⟩))).tmps.getD 11 aj=.int .i64 (i:Nat):=by rw[iL _ (by decide)];exact z
 replace t:(ah a (ae 133) (.pointer (ae ⟨G,0,ai⟩))).tmps.getD 13 aj=.pointer (ae ⟨J,0,ai⟩):=by rw[iL _ (by decide)];exact t
 replace p:(ah a (ae 133) (.pointer (ae ⟨G,0,ai⟩))).tmps.getD 14 aj=.bool ab:=by rw[iL _ (by decide)];exact p
 replace k:(ah a (ae 133) (.pointer (ae ⟨G,0,ai⟩))).tmps.getD 131 aj=.pointer (ae ⟨G,0,ai⟩):=by rw[iL _ (by decide)];exact k
 replace l:(ah a (ae 133) (.pointer (ae ⟨G,0,ai⟩))).tmps.getD 132 aj=.pointer (ae ⟨G,0,ai⟩):=by rw[iL _ (by decide)];exact l
 have o:(ah a (ae 133) (.pointer (ae ⟨G,0,ai⟩))).tmps.getD 133 aj=.pointer (ae ⟨G,0,ai⟩):=mF _ (by rw[ko]at e;rw[e];decide);generalize(ah a (ae 133) (.pointer (ae ⟨G,0,ai⟩)))=a at*;refine wpAnyH_take (i:=3) (oi:=opAt (opsL nu) 3) (v:=.pointer (ae ⟨G,208,ai⟩)) (by kernel_rfl) (by kernel_rfl) (by kernel_rfl) (by kernel_rfl) U (Dq (by kernel_rfl) λw _=>OH _ w (x:=.tmp 133) (by kernel_rfl) G o) ⟨m',M⟩ ?_;rw[d3];replace e:(ah a (ae 134) (.pointer (ae ⟨G,208,ai⟩))).tmps.size=152:=by rw[ko];exact e
 replace q:(ah a (ae 134) (.pointer (ae ⟨G,208,ai⟩))).defers=[]:=by rw[put_defers];exact q
 replace K:(ah a (ae 134) (.pointer (ae ⟨G,208,ai⟩))).tmps.getD 1 aj=.pointer (ae ⟨N,0,ai⟩):=by rw[iL _ (by decide)];exact K
 replace I:(ah a (ae 134) (.pointer (ae ⟨G,208,ai⟩))).tmps.getD 9 aj=.pointer (ae ⟨G,0,ai⟩):=by rw[iL _ (by decide)];exact I
 replace z:(ah a (ae 134) (.pointer (ae ⟨G,208,ai⟩))).tmps.getD 11 aj=.int .i64 (i:Nat):=by rw[iL _ (by decide)];exact z
 replace t:(ah a (ae 134) (.pointer (ae ⟨G,208,ai⟩))).tmps.getD 13 aj=.pointer (ae ⟨J,0,ai⟩):=by rw[iL _ (by decide)];exact t
 replace p:(ah a (ae 134) (.pointer (ae ⟨G,208,ai⟩))).tmps.getD 14 aj=.bool ab:=by rw[iL _ (by decide)];exact p
 replace k:(ah a (ae 134) (.pointer (ae ⟨G,208,ai⟩))).tmps.getD 131 aj=.pointer (ae ⟨G,0,ai⟩):=by rw[iL _ (by decide)];exact k
 replace l:(ah a (ae 134) (.pointer (ae ⟨G,208,ai⟩))).tmps.getD 132 aj=.pointer (ae ⟨G,0,ai⟩):=by rw[iL _ (by decide)];exact l
 replace o:(ah a (ae 134) (.pointer (ae ⟨G,208,ai⟩))).tmps.getD 133 aj=.pointer (ae ⟨G,0,ai⟩):=by rw[iL _ (by decide)];exact o
 have A:(ah a (ae 134) (.pointer (ae ⟨G,208,ai⟩))).tmps.getD 134 aj=.pointer (ae ⟨G,208,ai⟩):=mF _ (by rw[ko]at e;rw[e];decide);generalize(ah a (ae 134) (.pointer (ae ⟨G,208,ai⟩)))=a at*;refine wpAnyH_take (i:=4) (oi:=opAt (opsL nu) 4) (v:=.slice F n f) (by kernel_rfl) (by kernel_rfl) (by kernel_rfl) (by kernel_rfl) U (Dq (by kernel_rfl) λw hS=>ZB _ w (x:=.tmp 134) (by kernel_rfl) G 208 _ _ _ A hS.1) ⟨m',M⟩ ?_;rw[d4];replace e:(ah a (ae 135) (.slice F n f)).tmps.size=152:=by rw[ko];exact e
 replace q:(ah a (ae 135) (.slice F n f)).defers=[]:=by rw[put_defers];exact q
 replace K:(ah a (ae 135) (.slice F n f)).tmps.getD 1 aj=.pointer (ae ⟨N,0,ai⟩):=by rw[iL _ (by decide)];exact K
 replace I:(ah a (ae 135) (.slice F n f)).tmps.getD 9 aj=.pointer (ae ⟨G,0,ai⟩):=by rw[iL _ (by decide)];exact I
 replace z:(ah a (ae 135) (.slice F n f)).tmps.getD 11 aj=.int .i64 (i:Nat):=by rw[iL _ (by decide)];exact z
 replace t:(ah a (ae 135) (.slice F n f)).tmps.getD 13 aj=.pointer (ae ⟨J,0,ai⟩):=by rw[iL _ (by decide)];exact t
 replace p:(ah a (ae 135) (.slice F n f)).tmps.getD 14 aj=.bool ab:=by rw[iL _ (by decide)];exact p
 replace k:(ah a (ae 135) (.slice F n f)).tmps.getD 131 aj=.pointer (ae ⟨G,0,ai⟩):=by rw[iL _ (by decide)];exact k
 replace l:(ah a (ae 135) (.slice F n f)).tmps.getD 132 aj=.pointer (ae ⟨G,0,ai⟩):=by rw[iL _ (by decide)];exact l
 replace o:(ah a (ae 135) (.slice F n f)).tmps.getD 133 aj=.pointer (ae ⟨G,0,ai⟩):=by rw[iL _ (by decide)];exact o
 replace A:(ah a (ae 135) (.slice F n f)).tmps.getD 134 aj=.pointer (ae ⟨G,208,ai⟩):=by rw[iL _ (by decide)];exact A
 have D:(ah a (ae 135) (.slice F n f)).tmps.getD 135 aj=.slice F n f:=mF _ (by rw[ko]at e;rw[e];decide);generalize(ah a (ae 135) (.slice F n f))=a at*;refine wpAnyH_take (i:=5) (oi:=opAt (opsL nu) 5) (v:=.agg (kh r).toArray) (by kernel_rfl) (by kernel_rfl) (by kernel_rfl) (by kernel_rfl) U (yieldsIf_load_mid (by kernel_rfl) 73 (.tmp 13) (by kernel_rfl) J 0 t (kh r) _ (λw h=>h.2) Tryz.underlying73 rfl Ba) ⟨m',M⟩ ?_;rw[d5];replace e:(ah a (ae 136) (.agg (kh r).toArray)).tmps.size=152:=by rw[ko];exact e
 replace q:(ah a (ae 136) (.agg (kh r).toArray)).defers=[]:=by rw[put_defers];exact q
 replace K:(ah a (ae 136) (.agg (kh r).toArray)).tmps.getD 1 aj=.pointer (ae ⟨N,0,ai⟩):=by rw[iL _ (by decide)];exact K
 replace I:(ah a (ae 136) (.agg (kh r).toArray)).tmps.getD 9 aj=.pointer (ae ⟨G,0,ai⟩):=by rw[iL _ (by decide)];exact I
 replace z:(ah a (ae 136) (.agg (kh r).toArray)).tmps.getD 11 aj=.int .i64 (i:Nat):=by rw[iL _ (by decide)];exact z
 replace t:(ah a (ae 136) (.agg (kh r).toArray)).tmps.getD 13 aj=.pointer (ae ⟨J,0,ai⟩):=by rw[iL _ (by decide)];exact t
 replace p:(ah a (ae 136) (.agg (kh r).toArray)).tmps.getD 14 aj=.bool ab:=by rw[iL _ (by decide)];exact p
 replace k:(ah a (ae 136) (.agg (kh r).toArray)).tmps.getD 131 aj=.pointer (ae ⟨G,0,ai⟩):=by rw[iL _ (by decide)];exact k
 replace l:(ah a (ae 136) (.agg (kh r).toArray)).tmps.getD 132 aj=.pointer (ae ⟨G,0,ai⟩):=by rw[iL _ (by decide)];exact l
 replace o:(ah a (ae 136) (.agg (kh r).toArray)).tmps.getD 133 aj=.pointer (ae ⟨G,0,ai⟩):=by rw[iL _ (by decide)];exact o
 replace A:(ah a (ae 136) (.agg (kh r).toArray)).tmps.getD 134 aj=.pointer (ae ⟨G,208,ai⟩):=by rw[iL _ (by decide)];exact A
 replace D:(ah a (ae 136) (.agg (kh r).toArray)).tmps.getD 135 aj=.slice F n f:=by rw[iL _ (by decide)];exact D
 have E:(ah a (ae 136) (.agg (kh r).toArray)).tmps.getD 136 aj=.agg (kh r).toArray:=mF _ (by rw[ko]at e;rw[e];decide);generalize(ah a (ae 136) (.agg (kh r).toArray))=a at*;refine wpAnyH_all (rs:=[6]) (by kernel_rfl) (by simp) (λi hi=>?_);obtain rfl:i=6:=by simpa using hi
 unfold wpOp;rw[o6];simp only[vD k6,if_true];have ar:=ky w1 [.int .i64 (r 0),.int .i64 (r 1),.int .i64 (r 2),.int .i64 (r 3)] 73;have al:∀b,b<w1.heap.size->(w1.alloc (.cells #[.int .i64 (r 0),.int .i64 (r 1),.int .i64 (r 2),.int .i64 (r 3)] 73)).heap[b]?=w1.heap[b]?:=λb hb=>bJ _ _ _ hb;have aM:w1.heap.size<=(w1.alloc (.cells #[.int .i64 (r 0),.int .i64 (r 1),.int .i64 (r 2),.int .i64 (r 3)] 73)).heap.size:=by simp
 have ac:=zh am ((bR w1.heap.size w1).alloc (aU _) (.cells #[.int .i64 (r 0),.int .i64 (r 1),.int .i64 (r 2),.int .i64 (r 3)] 73));refine .inl (kN (aeP _ w1 (x:=.tmp 136) (by kernel_rfl) (r 0) (r 1) (r 2) (r 3) E) ?_);have ay:w1.heap=w.heap:=aG;have Z:∀j u,(kh r)[j]?=ae u->(w1.alloc (.cells #[.int .i64 (r 0),.int .i64 (r 1),.int .i64 (r 2),.int .i64 (r 3)] 73)).cell? ((⟨w1.heap.size,0,ai⟩:bG).add j)=ae u:=by intro j u hj;obtain⟨h1,h2⟩:=aP.1 hj;rw[oN,Nat.zero_add,ar.cell (show j<4 from h1)];unfold lc;rw[aZ];exact congrArg ae (by rw[show[cE .i64 (r 0),.int .i64 (r 1),.int .i64 (r 2),.int .i64 (r 3)]=kh r from rfl,hj];rfl)
 have aQ:w1.heap.size=w.heap.size:=by rw[ay]
 have aC:(w1.alloc (.cells #[.int .i64 (r 0),.int .i64 (r 1),.int .i64 (r 2),.int .i64 (r 3)] 73)).cell? ⟨G,208,ai⟩=ae (.slice F n f)/\(w1.alloc (.cells #[.int .i64 (r 0),.int .i64 (r 1),.int .i64 (r 2),.int .i64 (r 3)] 73)).rangeAt J 0 (kh r):=⟨by rw[ax (al G (by omega))];exact m',λj u hj=>by rw[ax (al J (by omega))];exact M j u hj⟩;generalize aO:w1.heap.size=q0 at*;generalize(w1.alloc (.cells #[.int .i64 (r 0),.int .i64 (r 1),.int .i64 (r 2),.int .i64 (r 3)] 73))=w2 at*;refine⟨aC,?_⟩;rw[d6];replace e:(ah a (ae 137) (.slice (ae ⟨q0,0,ai⟩) 1 1)).tmps.size=152:=by rw[ko];exact e
 replace q:(ah a (ae 137) (.slice (ae ⟨q0,0,ai⟩) 1 1)).defers=[]:=by rw[put_defers];exact q
 replace K:(ah a (ae 137) (.slice (ae ⟨q0,0,ai⟩) 1 1)).tmps.getD 1 aj=.pointer (ae ⟨N,0,ai⟩):=by rw[iL _ (by decide)];exact K
 replace I:(ah a (ae 137) (.slice (ae ⟨q0,0,ai⟩) 1 1)).tmps.getD 9 aj=.pointer (ae ⟨G,0,ai⟩):=by rw[iL _ (by decide)];exact I
 replace z:(ah a (ae 137) (.slice (ae ⟨q0,0,ai⟩) 1 1)).tmps.getD 11 aj=.int .i64 (i:Nat):=by rw[iL _ (by decide)];exact z
 replace t:(ah a (ae 137) (.slice (ae ⟨q0,0,ai⟩) 1 1)).tmps.getD 13 aj=.pointer (ae ⟨J,0,ai⟩):=by rw[iL _ (by decide)];exact t
 replace p:(ah a (ae 137) (.slice (ae ⟨q0,0,ai⟩) 1 1)).tmps.getD 14 aj=.bool ab:=by rw[iL _ (by decide)];exact p
 replace k:(ah a (ae 137) (.slice (ae ⟨q0,0,ai⟩) 1 1)).tmps.getD 131 aj=.pointer (ae ⟨G,0,ai⟩):=by rw[iL _ (by decide)];exact k
 replace l:(ah a (ae 137) (.slice (ae ⟨q0,0,ai⟩) 1 1)).tmps.getD 132 aj=.pointer (ae ⟨G,0,ai⟩):=by rw[iL _ (by decide)];exact l
 replace o:(ah a (ae 137) (.slice (ae ⟨q0,0,ai⟩) 1 1)).tmps.getD 133 aj=.pointer (ae ⟨G,0,ai⟩):=by rw[iL _ (by decide)];exact o
 replace A:(ah a (ae 137) (.slice (ae ⟨q0,0,ai⟩) 1 1)).tmps.getD 134 aj=.pointer (ae ⟨G,208,ai⟩):=by rw[iL _ (by decide)];exact A
 replace D:(ah a (ae 137) (.slice (ae ⟨q0,0,ai⟩) 1 1)).tmps.getD 135 aj=.slice F n f:=by rw[iL _ (by decide)];exact D
 replace E:(ah a (ae 137) (.slice (ae ⟨q0,0,ai⟩) 1 1)).tmps.getD 136 aj=.agg (kh r).toArray:=by rw[iL _ (by decide)];exact E
 have H:(ah a (ae 137) (.slice (ae ⟨q0,0,ai⟩) 1 1)).tmps.getD 137 aj=.slice (ae ⟨q0,0,ai⟩) 1 1:=mF _ (by rw[ko]at e;rw[e];decide);generalize(ah a (ae 137) (.slice (ae ⟨q0,0,ai⟩) 1 1))=a at*;refine wpAnyH_all (rs:=[7]) (by kernel_rfl) (by simp) (λi hi=>?_);obtain rfl:i=7:=by simpa using hi
 unfold wpOp;rw[o7];simp only[vD k7,if_true];refine .inl (wp_append_own w2 (.tmp 135) (.tmp 137) 62 (by kernel_rfl) B 73 i0 (.agg #[.int .i64 0,.int .i64 0,.int .i64 0,.int .i64 0]) 4 32 Tryz.underlying62 aK aE aL aF rfl (by decide) _ n xs D ac ⟨q0,0,ai⟩ 1 1 (kh r) H rfl Z (by simp[kh,Value.oneCell']) (by unfold maxLen;omega) (by omega) (by omega) ?_);intro v' W R Q _;obtain⟨C,g,rfl⟩:=sw R;have O:∀b,b<w.heap.size->ae b≠(bN F n f).ownBlock->W.heap[b]?=w.heap[b]?:=λb hb aI=>by rw[Q.block b (by omega) aI,al b (by omega),ay]
 have aq:w.heap.size<=W.heap.size:=by have:=Q.size;omega
 have mG:W.cell? ⟨G,208,ai⟩=ae (.slice F n f):=by rw[ax (O G (by omega) aB)];exact m
 have fG:W.frozen? ⟨G,208,ai⟩=aV:=by rw[bm (O G (by omega) aB)];exact hf
 have ad:W.rangeAt J 0 (kh r):=λj u hj=>by rw[ax (O J (by omega) aJ)];exact aa j u hj
 refine⟨⟨mG,ad⟩,?_⟩;rw[d7];replace e:(ah a (ae 138) (.slice C (n+1) g)).tmps.size=152:=by rw[ko];exact e
 replace q:(ah a (ae 138) (.slice C (n+1) g)).defers=[]:=by rw[put_defers];exact q
 replace K:(ah a (ae 138) (.slice C (n+1) g)).tmps.getD 1 aj=.pointer (ae ⟨N,0,ai⟩):=by rw[iL _ (by decide)];exact K
 replace I:(ah a (ae 138) (.slice C (n+1) g)).tmps.getD 9 aj=.pointer (ae ⟨G,0,ai⟩):=by rw[iL _ (by decide)];exact I
 replace z:(ah a (ae 138) (.slice C (n+1) g)).tmps.getD 11 aj=.int .i64 (i:Nat):=by rw[iL _ (by decide)];exact z
 replace t:(ah a (ae 138) (.slice C (n+1) g)).tmps.getD 13 aj=.pointer (ae ⟨J,0,ai⟩):=by rw[iL _ (by decide)];exact t
 replace p:(ah a (ae 138) (.slice C (n+1) g)).tmps.getD 14 aj=.bool ab:=by rw[iL _ (by decide)];exact p
 replace k:(ah a (ae 138) (.slice C (n+1) g)).tmps.getD 131 aj=.pointer (ae ⟨G,0,ai⟩):=by rw[iL _ (by decide)];exact k
 replace l:(ah a (ae 138) (.slice C (n+1) g)).tmps.getD 132 aj=.pointer (ae ⟨G,0,ai⟩):=by rw[iL _ (by decide)];exact l
 replace o:(ah a (ae 138) (.slice C (n+1) g)).tmps.getD 133 aj=.pointer (ae ⟨G,0,ai⟩):=by rw[iL _ (by decide)];exact o
 replace A:(ah a (ae 138) (.slice C (n+1) g)).tmps.getD 134 aj=.pointer (ae ⟨G,208,ai⟩):=by rw[iL _ (by decide)];exact A
 replace D:(ah a (ae 138) (.slice C (n+1) g)).tmps.getD 135 aj=.slice F n f:=by rw[iL _ (by decide)];exact D
 replace E:(ah a (ae 138) (.slice C (n+1) g)).tmps.getD 136 aj=.agg (kh r).toArray:=by rw[iL _ (by decide)];exact E
 replace H:(ah a (ae 138) (.slice C (n+1) g)).tmps.getD 137 aj=.slice (ae ⟨q0,0,ai⟩) 1 1:=by rw[iL _ (by decide)];exact H
 have L:(ah a (ae 138) (.slice C (n+1) g)).tmps.getD 138 aj=.slice C (n+1) g:=mF _ (by rw[ko]at e;rw[e];decide);generalize(ah a (ae 138) (.slice C (n+1) g))=a at*;refine wpAnyH_take (i:=8) (oi:=opAt (opsL nu) 8) (v:=.pointer (ae ⟨G,0,ai⟩)) (by kernel_rfl) (by kernel_rfl) (by kernel_rfl) (by kernel_rfl) U (Qa (x:=.tmp 131) (by kernel_rfl) (by kernel_rfl) k) ⟨mG,ad⟩ ?_;rw[d8];replace e:(ah a (ae 139) (.pointer (ae ⟨G,0,ai⟩))).tmps.size=152:=by rw[ko];exact e
 replace q:(ah a (ae 139) (.pointer (ae ⟨G,0,ai⟩))).defers=[]:=by rw[put_defers];exact q
 replace K:(ah a (ae 139) (.pointer (ae ⟨G,0,ai⟩))).tmps.getD 1 aj=.pointer (ae ⟨N,0,ai⟩):=by rw[iL _ (by decide)];exact K
 replace I:(ah a (ae 139) (.pointer (ae ⟨G,0,ai⟩))).tmps.getD 9 aj=.pointer (ae ⟨G,0,ai⟩):=by rw[iL _ (by decide)];exact I
 replace z:(ah a (ae 139) (.pointer (ae ⟨G,0,ai⟩))).tmps.getD 11 aj=.int .i64 (i:Nat):=by rw[iL _ (by decide)];exact z
 replace t:(ah a (ae 139) (.pointer (ae ⟨G,0,ai⟩))).tmps.getD 13 aj=.pointer (ae ⟨J,0,ai⟩):=by rw[iL _ (by decide)];exact t
 replace p:(ah a (ae 139) (.pointer (ae ⟨G,0,ai⟩))).tmps.getD 14 aj=.bool ab:=by rw[iL _ (by decide)];exact p
 replace k:(ah a (ae 139) (.pointer (ae ⟨G,0,ai⟩))).tmps.getD 131 aj=.pointer (ae ⟨G,0,ai⟩):=by rw[iL _ (by decide)];exact k
 replace l:(ah a (ae 139) (.pointer (ae ⟨G,0,ai⟩))).tmps.getD 132 aj=.pointer (ae ⟨G,0,ai⟩):=by rw[iL _ (by decide)];exact l
 replace o:(ah a (ae 139) (.pointer (ae ⟨G,0,ai⟩))).tmps.getD 133 aj=.pointer (ae ⟨G,0,ai⟩):=by rw[iL _ (by decide)];exact o
 replace A:(ah a (ae 139) (.pointer (ae ⟨G,0,ai⟩))).tmps.getD 134 aj=.pointer (ae ⟨G,208,ai⟩):=by rw[iL _ (by decide)];exact A
 replace D:(ah a (ae 139) (.pointer (ae ⟨G,0,ai⟩))).tmps.getD 135 aj=.slice F n f:=by rw[iL _ (by decide)];exact D
 replace E:(ah a (ae 139) (.pointer (ae ⟨G,0,ai⟩))).tmps.getD 136 aj=.agg (kh r).toArray:=by rw[iL _ (by decide)];exact E
 replace H:(ah a (ae 139) (.pointer (ae ⟨G,0,ai⟩))).tmps.getD 137 aj=.slice (ae ⟨q0,0,ai⟩) 1 1:=by rw[iL _ (by decide)];exact H
 replace L:(ah a (ae 139) (.pointer (ae ⟨G,0,ai⟩))).tmps.getD 138 aj=.slice C (n+1) g:=by rw[iL _ (by decide)];exact L
 have T:(ah a (ae 139) (.pointer (ae ⟨G,0,ai⟩))).tmps.getD 139 aj=.pointer (ae ⟨G,0,ai⟩):=mF _ (by rw[ko]at e;rw[e];decide);generalize(ah a (ae 139) (.pointer (ae ⟨G,0,ai⟩)))=a at*;refine wpAnyH_take (i:=9) (oi:=opAt (opsL nu) 9) (v:=.pointer (ae ⟨G,208,ai⟩)) (by kernel_rfl) (by kernel_rfl) (by kernel_rfl) (by kernel_rfl) U (Dq (by kernel_rfl) λw _=>OH _ w (x:=.tmp 139) (by kernel_rfl) G T) ⟨mG,ad⟩ ?_;rw[d9];replace e:(ah a (ae 140) (.pointer (ae ⟨G,208,ai⟩))).tmps.size=152:=by rw[ko];exact e
 replace q:(ah a (ae 140) (.pointer (ae ⟨G,208,ai⟩))).defers=[]:=by rw[put_defers];exact q
 replace K:(ah a (ae 140) (.pointer (ae ⟨G,208,ai⟩))).tmps.getD 1 aj=.pointer (ae ⟨N,0,ai⟩):=by rw[iL _ (by decide)];exact K
 replace I:(ah a (ae 140) (.pointer (ae ⟨G,208,ai⟩))).tmps.getD 9 aj=.pointer (ae ⟨G,0,ai⟩):=by rw[iL _ (by decide)];exact I
 replace z:(ah a (ae 140) (.pointer (ae ⟨G,208,ai⟩))).tmps.getD 11 aj=.int .i64 (i:Nat):=by rw[iL _ (by decide)];exact z
 replace t:(ah a (ae 140) (.pointer (ae ⟨G,208,ai⟩))).tmps.getD 13 aj=.pointer (ae ⟨J,0,ai⟩):=by rw[iL _ (by decide)];exact t
 replace p:(ah a (ae 140) (.pointer (ae ⟨G,208,ai⟩))).tmps.getD 14 aj=.bool ab:=by rw[iL _ (by decide)];exact p
 replace k:(ah a (ae 140) (.pointer (ae ⟨G,208,ai⟩))).tmps.getD 131 aj=.pointer (ae ⟨G,0,ai⟩):=by rw[iL _ (by decide)];exact k
 replace l:(ah a (ae 140) (.pointer (ae ⟨G,208,ai⟩))).tmps.getD 132 aj=.pointer (ae ⟨G,0,ai⟩):=by rw[iL _ (by decide)];exact l
 replace o:(ah a (ae 140) (.pointer (ae ⟨G,208,ai⟩))).tmps.getD 133 aj=.pointer (ae ⟨G,0,ai⟩):=by rw[iL _ (by decide)];exact o
 replace A:(ah a (ae 140) (.pointer (ae ⟨G,208,ai⟩))).tmps.getD 134 aj=.pointer (ae ⟨G,208,ai⟩):=by rw[iL _ (by decide)];exact A
 replace D:(ah a (ae 140) (.pointer (ae ⟨G,208,ai⟩))).tmps.getD 135 aj=.slice F n f:=by rw[iL _ (by decide)];exact D
 replace E:(ah a (ae 140) (.pointer (ae ⟨G,208,ai⟩))).tmps.getD 136 aj=.agg (kh r).toArray:=by rw[iL _ (by decide)];exact E
 replace H:(ah a (ae 140) (.pointer (ae ⟨G,208,ai⟩))).tmps.getD 137 aj=.slice (ae ⟨q0,0,ai⟩) 1 1:=by rw[iL _ (by decide)];exact H
 replace L:(ah a (ae 140) (.pointer (ae ⟨G,208,ai⟩))).tmps.getD 138 aj=.slice C (n+1) g:=by rw[iL _ (by decide)];exact L
 replace T:(ah a (ae 140) (.pointer (ae ⟨G,208,ai⟩))).tmps.getD 139 aj=.pointer (ae ⟨G,0,ai⟩):=by rw[iL _ (by decide)];exact T
 have au:(ah a (ae 140) (.pointer (ae ⟨G,208,ai⟩))).tmps.getD 140 aj=.pointer (ae ⟨G,208,ai⟩):=mF _ (by rw[ko]at e;rw[e];decide);generalize(ah a (ae 140) (.pointer (ae ⟨G,208,ai⟩)))=a at*;refine wpAnyH_done (by kernel_rfl) ?_ _;refine AO aD ?_;refine wpList_plain aH λ_ hK=>?_;refine Y2 (Tz _ W (x:=.tmp 140) (y:=.tmp 138) (by kernel_rfl) G 208 _ _ _ _ au L mG fG) (hK _ _ ?_);refine⟨rfl,⟨⟨?_,?_,?_,?_⟩,?_,?_⟩,_,W,R,⟨aq,O⟩,rfl⟩;·rw[P];exact e
 ·rw[P];exact q
 ·rw[P];exact K
 ·rw[P];exact I
 ·rw[P];exact z
 ·rw[P];exact p
end
theorem O6(fs:Nat->Int):∀(n k:Nat),valOf (kW fs n) (lE fs n) k=lE fs n k|0,k=>rfl|n+1,k=>by have a:=O6 fs n k;by_cases h:fs (2*n)=k;(·have e1:kW fs (n+1) k=au:=if_pos h;unfold valOf;rw[if_pos e1]);·have e1:kW fs (n+1) k=kW fs n k:=if_neg h;have e2:lE fs (n+1) k=lE fs n k:=if_neg h;unfold valOf at a⊢;rw[e1,e2];exact a
theorem Oe(fs:Nat->Int):∀(n:Nat),(∀j,j<n->ji (fs (2*j+1)))->∀k,kW fs n k=au->ji (lE fs n k)|0,_,k,h=>by cases h|n+1,a,k,h=>by simp only[kW,lE]at h⊢;by_cases e:fs (2*n)=k;(·rw[if_pos e];exact a n (by omega));·rw[if_neg e]at h⊢;exact Oe fs n (λj b=>a j (by omega)) k h
theorem aaw{t:iV}(T:qo t){s:Cells}(h:∀k,s.1 k=au->ji (s.2 k)):∀k,(qk t s).1 k=au->ji ((qk t s).2 k):=by
 unfold qk;split;·exact h
 ·exact(qG.run T t.nc (m:=⟨aV,λ_=>0,[],s.1,s.2,0⟩) ⟨λi _=>WalkArith.wf_i64 (n:=0) (by omega),h,bA _,aU _,λc a=>by cases a⟩).aeW
theorem QH{D:jb}(T:∀i,i<D.nl->qo (D.ts i)){s:Cells}(h:∀k,s.1 k=au->ji (s.2 k)):∀i,i<=D.nl->∀k,(j9 D s i).1 k=au->ji ((j9 D s i).2 k)|0,_=>h|i+1,hi=>aaw (T i (by omega)) (QH T h i (by omega))
section
variable{e:Nat}{vB vL vS:ao}{a b c:Int}{np:Nat}{hs:Nat->Bool}{v:Nat->Int}{vr va:ao}
theorem TP{k j:Nat}(hk:k<100)(g:j<210):(if j=8+k then cD au else lz e vB vL vS a b c np hs v vr va j)=lz e vB vL vS a b c np (λx=>if x=k then au else hs x) v vr va j:=by
 unfold lz;by_cases f:j<8;·rw[if_pos f,if_pos f,if_neg (by omega)]
 ·rw[if_neg f,if_neg f];by_cases d:j<208;(·rw[if_pos d,if_pos d];by_cases h:j<108;(·rw[tV _ _ (by omega),tV _ _ (by omega)];by_cases e:j=8+k;(·rw[if_pos e,if_pos (by omega)]);·rw[if_neg e,if_neg (by omega)]);·(have:j-8=100+(j-108):=by omega);rw[this,tj _ _ (by omega),tj _ _ (by omega),if_neg (by omega)]);·rw[if_neg d,if_neg d,if_neg (by omega)]
theorem ahs{k j:Nat}{x:Int}(hk:k<100)(g:j<210):(if j=108+k then cE .i64 x else lz e vB vL vS a b c np hs v vr va j)=lz e vB vL vS a b c np hs (λy=>if y=k then x else v y) vr va j:=by
 unfold lz;by_cases f:j<8;·rw[if_pos f,if_pos f,if_neg (by omega)]
 ·rw[if_neg f,if_neg f];by_cases d:j<208;(·rw[if_pos d,if_pos d];by_cases h:j<108;(·rw[tV _ _ (by omega),tV _ _ (by omega),if_neg (by omega)]);·(have:j-8=100+(j-108):=by omega);rw[this,tj _ _ (by omega),tj _ _ (by omega)];by_cases e:j=108+k;(·rw[if_pos e,if_pos (by omega)]);·rw[if_neg e,if_neg (by omega)]);·rw[if_neg d,if_neg d,if_neg (by omega)]
theorem G7{d:Nat->Bool}{f:Nat->Int}(h:∀k,k<100->hs k=d k)(g:∀k,k<100->v k=f k){j:Nat}(l:j<210):lz e vB vL vS a b c np hs v vr va j=lz e vB vL vS a b c np d f vr va j:=by
 unfold lz;split;·rfl
 ·split;(·by_cases i:j<108;(·rw[tV _ _ (by omega),tV _ _ (by omega),h _ (by omega)]);·(have:j-8=100+(j-108):=by omega);rw[this,tj _ _ (by omega),tj _ _ (by omega),g _ (by omega)]);·rfl
theorem VC{cs:List ao}{j:Nat}{d:Nat->Bool}{i:Nat->Int}(f:cs=ly d i)(l:j<210):(if 8<=j/\j<8+cs.length then lc cs (j-8)else lz e vB vL vS a b c np hs v vr va j)=lz e vB vL vS a b c np d i vr va j:=by
 have k:cs.length=200:=by rw[f];exact uE _ _
 rw[k];unfold lz;by_cases g:j<8;·rw[if_pos g,if_pos g,if_neg (by omega)]
 ·rw[if_neg g,if_neg g];by_cases h:j<208;(·rw[if_pos (show 8<=j/\j<8+200 by omega),if_pos h,f]);·rw[if_neg h,if_neg h,if_neg (by omega)]
theorem Yt{j:Nat}{x:ao}(d:j<210):(if j=208 then x else lz e vB vL vS a b c np hs v vr va j)=lz e vB vL vS a b c np hs v x va j:=by
 unfold lz;by_cases e:j=208;·subst e;rfl
 ·simp only[e,if_false]
theorem Zy{j:Nat}{x:ao}(d:j<210):(if j=209 then x else lz e vB vL vS a b c np hs v vr va j)=lz e vB vL vS a b c np hs v vr x j:=by
 unfold lz;by_cases e:j=209;·subst e;rfl
 ·rw[if_neg e];split;(·rfl);·split;(·rfl);·split;(·rfl);·omega
end
def pF(d w:an)(G:Nat):Prop:=d.heap.size<=w.heap.size/\∀b,b<G->w.heap[b]?=d.heap[b]?
theorem pF.below{f w w1:an}{G:Nat}(h:pF f w G)(i:G<=f.heap.size)(g:Below w.heap.size w w1):pF f w1 G:=⟨bn h.1 g.size,λb d=>by rw[g.block b (by have:=h.1;omega)];exact h.2 b d⟩
theorem pF.set{d w:an}{G:Nat}(h:pF d w G)(o:Nat)(v:ao):pF d (w.setCell ⟨G,o,ai⟩ v) G:=⟨by have:=h.1;simpa using this,λb f=>by rw[aF _ _ _ _ (show b≠G by omega)];exact h.2 b f⟩
theorem pF.W5{d w:an}{G:Nat}(h:pF d w G)(vs:List ao)(o:Nat):pF d (w.setCells G o vs) G:=by induction vs generalizing w o with|nil=>exact h|cons v vs f=>exact f (h.set o v) (o+1)
theorem pF.cell{d w:an}{G:Nat}(h:pF d w G){b o:Nat}(f:b<G){v:ao}(g:d.cell? ⟨b,o,ai⟩=ae v):w.cell? ⟨b,o,ai⟩=ae v:=by rw[ax (h.2 b f)];exact g
section
variable{N G:Nat}
theorem adb{a:Act}(h:kZ N G a){i:Nat}(d:a.tmps.getD 10 aj=.int .i64 (i:Nat))(w:an){p:Option bG}{j f:Nat}(q:w.cell? ⟨N,5,ai⟩=ae (.slice p j f))(hi:i<j):FF.wp ak (λex s w'=>ex=.normal/\(kZ N G s/\s.tmps.getD 10 aj=.int .i64 (i:Nat))/\w'=w) a w:=by
 obtain⟨n,o,l,k⟩:=h;obtain⟨g,rfl,m⟩:=qK a n o;rw[m]at l k d;rw[l,k,d];have i2:(i:Int)<(j:Int):=by omega
 unfold kZ;simp only[FF,vp,mK,oU,aG,aq,iD,iA,iI,iM];go_wp2
theorem adl{a:Act}(h:kZ N G a){i:Nat}(d:a.tmps.getD 10 aj=.int .i64 (i:Nat))(w:an){p:Option bG}{j f:Nat}(q:w.cell? ⟨N,5,ai⟩=ae (.slice p j f))(hi:¬i<j):FF.wp ak (λex s w'=>ex=.exit 0/\kZ N G s/\w'=w) a w:=by
 obtain⟨n,o,l,k⟩:=h;obtain⟨g,rfl,m⟩:=qK a n o;rw[m]at l k d;rw[l,k,d];have i2:¬(i:Int)<(j:Int):=by omega
 unfold kZ;simp only[FF,vp,mK,oU,aG,aq,iD,iA,iI,iM];go_wp2
theorem ahq{a:Act}(h:kZ N G a){i:Nat}(d:a.tmps.getD 10 aj=.int .i64 (i:Nat))(hi:i<100)(w:an):Lu.wp ak (λex s w'=>ex=.normal/\(kZ N G s/\s.tmps.getD 10 aj=.int .i64 ((i+1:Nat):Int))/\w'=w) a w:=by obtain⟨k,m,f,j⟩:=h;obtain⟨g,rfl,l⟩:=qK a k m;rw[l]at f j d;rw[f,j,d];unfold kZ;simp only[Lu,vp,mK,oU,aG,aq,iD,iA,iI,iM];go_wp2
theorem Ts{a:Act}(h:kZ N G a){i:Nat}(m:a.tmps.getD 10 aj=.int .i64 (i:Nat))(w:an)(sb x t l k:Nat)(z:w.cell? ⟨N,5,ai⟩=ae (.slice (ae ⟨sb,x,ai⟩) t l))(hi:i<t)(hk:k<100)(y:w.cell? ⟨sb,x+i*2,ai⟩=ae (.int .i64 (k:Nat)))(old:ao)(E:w.cell? ⟨G,8+k,ai⟩=ae old)(B:∀o,w.frozen? ⟨G,o,ai⟩=aV)(r:G<w.heap.size):En.wp ak (λex s w'=>ex=.normal/\(kZ N G s/\s.tmps.getD 10 aj=.int .i64 (i:Nat))/\∃w1,Below w.heap.size w w1/\w'=w1.setCell ⟨G,8+k,ai⟩ (.bool au)) a w:=by
 obtain⟨H,L,D,A⟩:=h;obtain⟨g,rfl,I⟩:=qK a H L;rw[I]at D A m;rw[D,A,m];have i1:(0:Int)<=(i:Int):=by omega
 have i2:(i:Int)<(t:Int):=by omega
 have i3:(0:Int)<=(k:Int):=by omega
 have O:(k:Int)<100:=by omega
 unfold kZ;rw[aae];have K:=cell_regrown z;have J:=cell_regrown y;have F:=cell_regrown E;have ff:=FA B r;clear z y E B;refine BU (n:=11) (tail:=[11]) (C:=λw'=>∃p:Regrown,w'=grow (redrawn w p.d) p.os) (by kernel_rfl) (AM (by kernel_rfl) _) (by decide) (by kernel_rfl) (by kernel_rfl) ⟨⟨w.drawn+1,#[]⟩,by rw[grow_empty];rfl⟩ ?_;simp only[jP,En,vp,mK,oU,aG,aq,iD,iA,iI,iM,bB,bg,bE,bT,bU,ck];repeat(go_big_quiet_step(fail))
 refine wpQuiet_nil ?_;intro _ u;obtain⟨⟨q,f⟩,j⟩:=u;subst j;have Q:=F q f;have P:=ff q f;have M:=below_regrown w q f;generalize grow (redrawn w q) f=w1 at*;clear K J F ff;refine AO rfl ?_;go_wp2_with fail;exact⟨w1,M,rfl⟩
theorem XL{a:Act}(h:kZ N G a){i:Nat}(m:a.tmps.getD 10 aj=.int .i64 (i:Nat))(w:an)(sb t y l k:Nat)(x:Int)(D:w.cell? ⟨N,5,ai⟩=ae (.slice (ae ⟨sb,t,ai⟩) y l))(hi:i<y)(hk:k<100)(B:w.cell? ⟨sb,t+i*2,ai⟩=ae (.int .i64 (k:Nat)))(k1:w.cell? ⟨sb,t+i*2+1,ai⟩=ae (.int .i64 x))(old:ao)(z:w.cell? ⟨G,108+k,ai⟩=ae old)(F:∀o,w.frozen? ⟨G,o,ai⟩=aV)(r:G<w.heap.size):Dh.wp ak (λex s w'=>ex=.normal/\(kZ N G s/\s.tmps.getD 10 aj=.int .i64 (i:Nat))/\∃w1,Below w.heap.size w w1/\w'=w1.setCell ⟨G,108+k,ai⟩ (.int .i64 x)) a w:=by
 obtain⟨J,P,A,E⟩:=h;obtain⟨g,rfl,K⟩:=qK a J P;rw[K]at A E m;rw[A,E,m];have i1:(0:Int)<=(i:Int):=by omega
 have i2:(i:Int)<(y:Int):=by omega
 have i3:(0:Int)<=(k:Int):=by omega
 have R:(k:Int)<100:=by omega
 unfold kZ;rw[aeq];have O:=cell_regrown D;have L:=cell_regrown B;have M:=cell_regrown k1;have H:=cell_regrown z;have ff:=FA F r;clear D B k1 z F;refine BU (n:=17) (tail:=[17]) (C:=λw'=>∃p:Regrown,w'=grow (redrawn w p.d) p.os) (by kernel_rfl) (AM (by kernel_rfl) _) (by decide) (by kernel_rfl) (by kernel_rfl) ⟨⟨w.drawn+1,#[]⟩,by rw[grow_empty];rfl⟩ ?_;simp only[jP,Dh,vp,mK,oU,aG,aq,iD,iA,iI,iM,bB,bg,bE,bT,bU,ck];repeat(go_big_quiet_step(fail))
 refine wpQuiet_nil ?_;intro _ u;obtain⟨⟨q,f⟩,j⟩:=u;subst j;have S:=H q f;have Q:=ff q f;have I:=below_regrown w q f;generalize grow (redrawn w q) f=w1 at*;clear O L M H ff;refine AO rfl ?_;go_wp2_with fail;exact⟨w1,I,rfl⟩
theorem SO{z:an}{e:Nat}{vB vL vS:ao}{a' L M:Int}{np:Nat}{vr va:ao}{p:Nat}{fs:Nat->Int}(Y:p<=40)(K:∀j,j<p->0<=fs (2*j)/\fs (2*j)<=99)(I:N<G)(ac:G<z.heap.size){U:Option bG}{t:Nat}(V:z.cell? ⟨N,5,ai⟩=ae (.slice U p t))(hS:0<p->∃sb y,U=ae ⟨sb,y,ai⟩/\sb<G/\∀j,j<p*2->z.cell? ⟨sb,y+j,ai⟩=ae (.int .i64 (fs j)))(f:iO z G 65 210 (lz e vB vL vS a' L M np (λ_=>aV) (λ_=>0) vr va)){a:Act}(o:kZ N G a)(d:a.tmps.getD 10 aj=.int .i64 ((0:Nat):Int)){Q:Exit->Act->an->Prop}(W:∀s w,kZ N G s->pF z w G->iO w G 65 210 (lz e vB vL vS a' L M np (kW fs p) (lE fs p) vr va)->Q .normal s w):(Code.block 0 (.loop vp)).wp ak Q a z:=by
 refine wp_block (wp_loop (λs w=>∃i:Nat,i<=p/\kZ N G s/\s.tmps.getD 10 aj=.int .i64 (i:Nat)/\pF z w G/\iO w G 65 210 (lz e vB vL vS a' L M np (kW fs i) (lE fs i) vr va)) (λs _=>p-(intOf (s.tmps.getD 10 aj)).toNat) ⟨0,bA _,o,d,⟨aU _,λ_ _=>rfl⟩,f.congr λj F=>G7 (λ_ _=>rfl) (λ_ _=>rfl) F⟩ ?_);clear o d f a;rintro s0 w⟨i,hi,o,d,q,f⟩;have P:=d;have n:=q.cell I V;by_cases r:i<p;·obtain⟨sb,y,rfl,u,h⟩:=hS (by omega);obtain⟨aa,Z⟩:=K i r;obtain⟨k,hk⟩:∃k:Nat,fs (2*i)=k:=⟨(fs (2*i)).toNat,by omega⟩;(have l:k<100:=by omega);(have c0:w.cell? ⟨sb,y+i*2,ai⟩=ae (.int .i64 (k:Nat)):=by rw[q.cell u (h (i*2) (by omega)),aW i 2,hk]);(have c1:w.cell? ⟨sb,y+i*2+1,ai⟩=ae (.int .i64 (fs (2*i+1))):=by rw[aD,q.cell u (h (i*2+1) (by omega)),aW i 2]);rw[Ry];refine wp_seq (iN (adb o d w n r) ?_);clear o d;rintro ex s X⟨rfl,⟨o,d⟩,J⟩;rw[J];clear J X;refine wp_seq (wp_block (wp_seq (iN (Ts o d w sb y p t k n r l c0 _ (f.cell (j:=8+k) (by omega)) f.frozen f.lt) ?_)));clear o d;rintro ex s w2⟨rfl,⟨o,d⟩,w1,E,B⟩;(have m:pF z w2 G:=by rw[B];exact(q.below (by omega) E).set _ _);(have g:iO w2 G 65 210 (lz e vB vL vS a' L M np (kW fs (i+1)) (lE fs i) vr va):=by rw[B];refine((f.below E).setCell (8+k) (.bool au)).congr λj F=>?_;rw[TP l F];refine G7 (λx hx=>?_) (λ_ _=>rfl) F;simp only[kW,hk];by_cases e:x=k;(·rw[if_pos e,if_pos (by omega)]);·rw[if_neg e,if_neg (by omega)]);clear B E w1 q f n c0 c1;have n:=m.cell I V;(have c0:w2.cell? ⟨sb,y+i*2,ai⟩=ae (.int .i64 (k:Nat)):=by rw[m.cell u (h (i*2) (by omega)),aW i 2,hk]);(have c1:w2.cell? ⟨sb,y+i*2+1,ai⟩=ae (.int .i64 (fs (2*i+1))):=by rw[aD,m.cell u (h (i*2+1) (by omega)),aW i 2]);refine iN (XL o d w2 sb y p t k (fs (2*i+1)) n r l c0 c1 _ (g.cell (j:=108+k) (by omega)) g.frozen g.lt) ?_;clear o d;rintro ex s R⟨rfl,⟨o,d⟩,w1,E,H⟩;(have O:pF z R G:=by rw[H];exact(m.below (by omega) E).set _ _);(have D:iO R G 65 210 (lz e vB vL vS a' L M np (kW fs (i+1)) (lE fs (i+1)) vr va):=by rw[H];refine((g.below E).setCell (108+k) (.int .i64 (fs (2*i+1)))).congr λj F=>?_;rw[ahs l F];refine G7 (λ_ _=>rfl) (λx hx=>?_) F;simp only[lE,hk];by_cases e:x=k;(·rw[if_pos e,if_pos (by omega)]);·rw[if_neg e,if_neg (by omega)]);clear H E w1 m g n c0 c1;refine iN (ahq o d (by omega) R) ?_;clear o;rintro ex s' w5⟨rfl,⟨C,A⟩,S⟩;rw[S];refine⟨⟨i+1,by omega,C,A,O,D⟩,?_⟩;rw[A,P];simp only[intOf];omega
 ·(obtain rfl:i=p:=by omega);rw[Ry];refine wp_seq (iN (adl o d w n r) ?_);rintro ex s' w'⟨rfl,C,T⟩;rw[T];exact W s' w C q f
end
def uw(D:jb)(s0:Cells)(n:Nat):List ao:=(aI n).flatMap λj=>kh (nU (D.ts j) (j9 D s0 j)).r
def ud(D:jb)(s0:Cells)(n:Nat):List ao:=(aI n).map λj=>.bool (nU (D.ts j) (j9 D s0 j)).ab
theorem AI(D:jb)(s0:Cells)(n:Nat):uw D s0 (n+1)=uw D s0 n++kh (nU (D.ts n) (j9 D s0 n)).r:=by simp[uw,bO]
theorem aeo(D:jb)(s0:Cells)(n:Nat):ud D s0 (n+1)=ud D s0 n++[.bool (nU (D.ts n) (j9 D s0 n)).ab]:=by simp[ud,bO]
theorem vV{w w':an}{base:Nat}{e:bq}{b n:Nat}{v:ao}{xs:List ao}(h:w.ownsRow base e b v n xs)(f:∀g,ae g=v.ownBlock->w'.heap[g]?=w.heap[g]?):w'.ownsRow base e b v n xs:=by
 rcases h.2 with c|⟨g,cap,a,e1,e2,e3,d⟩;·exact⟨h.1,.inl c⟩
 ·exact⟨h.1,.inr ⟨g,cap,a,e1,e2,by rw[f g (by rw[e1];rfl)];exact e3,d⟩⟩
theorem oV{w:an}{base:Nat}{e:bq}{c n:Nat}{v:ao}{xs:List ao}(h:w.ownsRow base e c v n xs){g:Nat}(a:ae g=v.ownBlock):base<=g/\g<w.heap.size/\nY w g e:=by
 rcases h.2 with⟨rfl,_⟩|⟨g',cap,b,e1,e2,e3,d⟩;·cases a
 ·rw[e1]at a;cases a;exact⟨e2,(aJ.1 e3).1,_,_,e3⟩
section
variable{N G:Nat}
theorem aaV{a:Act}(h:kZ N G a){i:Nat}(b:a.tmps.getD 11 aj=.int .i64 (i:Nat))(w:an){aL:Option bG}{nl capL:Nat}(k:w.cell? ⟨N,4,ai⟩=ae (.slice aL nl capL))(hi:i<nl):C6.wp ak (λex s w'=>ex=.normal/\(kZ N G s/\s.tmps.getD 11 aj=.int .i64 (i:Nat))/\w'=w) a w:=by
 obtain⟨f,e,d,c⟩:=h;obtain⟨g,rfl,j⟩:=qK a f e;rw[j]at d c b;rw[d,c,b];have i2:(i:Int)<(nl:Int):=by omega
 unfold kZ;simp only[C6,tf,mK,oU,aG,aq,iD,iA,iI,iM];go_wp2
theorem abb{a:Act}(h:kZ N G a){i:Nat}(b:a.tmps.getD 11 aj=.int .i64 (i:Nat))(w:an){aL:Option bG}{nl capL:Nat}(k:w.cell? ⟨N,4,ai⟩=ae (.slice aL nl capL))(hi:¬i<nl):C6.wp ak (λex s w'=>ex=.exit 2/\kZ N G s/\w'=w) a w:=by
 obtain⟨f,e,d,c⟩:=h;obtain⟨g,rfl,j⟩:=qK a f e;rw[j]at d c b;rw[d,c,b];have i2:¬(i:Int)<(nl:Int):=by omega
 unfold kZ;simp only[C6,tf,mK,oU,aG,aq,iD,iA,iI,iM];go_wp2
theorem Sd{a:Act}(h:kZ N G a){i:Nat}(b:a.tmps.getD 11 aj=.int .i64 (i:Nat))(hi:i<100)(w:an):J1.wp ak (λex s w'=>ex=.normal/\(kZ N G s/\s.tmps.getD 11 aj=.int .i64 ((i+1:Nat):Int))/\w'=w) a w:=by obtain⟨e,j,c,d⟩:=h;obtain⟨g,rfl,f⟩:=qK a e j;rw[f]at c d b;rw[c,d,b];unfold kZ;simp only[J1,tf,mK,oU,aG,aq,iD,iA,iI,iM];go_wp2
theorem Uo{a:Act}(h:kZ N G a){i:Nat}(c:a.tmps.getD 11 aj=.int .i64 (i:Nat))(w:an)(l n:Nat)(ab:Bool)(d:a.tmps.getD 12 aj=.pointer (ae ⟨l,0,ai⟩))(b:a.tmps.getD 13 aj=.pointer (ae ⟨n,0,ai⟩))(e:a.tmps.getD 14 aj=.bool ab)(cs:List ao)(k:cs.length=200)(f:cs.toArray.all (·.oneCell')=au)(t:w.rangeAt l 0 cs)(q:w.there G 8 200):JJ.wp ak (λex s w'=>ex=.normal/\(kZ N G s/\s.tmps.getD 11 aj=.int .i64 (i:Nat)/\s.tmps.getD 13 aj=.pointer (ae ⟨n,0,ai⟩)/\s.tmps.getD 14 aj=.bool ab)/\w'=w.setCells G 8 cs) a w:=by
 obtain⟨y,z,p,m⟩:=h;obtain⟨g,rfl,x⟩:=qK a y z;rw[x]at p m c d b e;rw[p,m,c,d,b,e];have r:(storeCells ⟨G,8,ai⟩ cs).run ak w=.ok () (w.setCells G 8 cs):=by have:=run_storeCells_cells (P:=ak) G 8 cs 0 w (λj A=>(q j (by omega)).1) (λj A=>(q j (by omega)).2) (λv u=>(Array.all_eq_true_iff_forall_mem.1 f) v (by simpa using u));simpa using this
 unfold kZ;simp only[JJ,tf,mK,oU,aG,aq,iD,iA,iI,iM];refine wp_region_lit ?_;go_wp2_with fail;rename_i K o;refine wp_load_mid 61 (.tmp 12) ?_ l 0 ?_ cs _ t Tryz.underlying61 rfl (by rw[k];exact yJ) ?_;·rfl
 ·rfl
 refine o _ _ ?_;clear o K;go_wp2_with fail
theorem Yp{a:Act}(h:kZ N G a){i:Nat}(q:a.tmps.getD 11 aj=.int .i64 (i:Nat))(w:an)(ab:Bool)(p:a.tmps.getD 14 aj=.bool ab)(B n:Nat)(z:ao)(xs:List ao)(m:w.cell? ⟨G,209,ai⟩=ae z)(K:w.frozen? ⟨G,209,ai⟩=aV)(x:ae G≠z.ownBlock)(R:B<=w.heap.size)(W:n<=100)(l:w.ownsRow B 4 1 z n xs):Li.wp ak (λex s w'=>ex=.normal/\(kZ N G s/\s.tmps.getD 11 aj=.int .i64 (i:Nat))/\∃(A:ao)(w1:an),w1.ownsRow B 4 1 A (n+1) (xs++[.bool ab])/\(w.heap.size<=w1.heap.size/\∀b,b<w.heap.size->ae b≠z.ownBlock->w1.heap[b]?=w.heap[b]?)/\w'=w1.setCell ⟨G,209,ai⟩ A) a w:=by
 obtain⟨y,P,M,J⟩:=h;obtain⟨g,rfl,Q⟩:=qK a y P;rw[Q]at M J q p;rw[M,J,q,p];obtain⟨i0,hi,F,H,C⟩:=info_parts Tryz.adi;obtain⟨O,o,rfl⟩:=sw l;have d:=zh l ((bR w.heap.size w).alloc (aU _) (.cells #[.bool ab] 4));have t:=aA _ _ m;have f:∀j u,[cD ab][j]?=ae u->(w.alloc (.cells #[.bool ab] 4)).cell? ((⟨w.heap.size,0,ai⟩:bG).add j)=ae u:=by intro j u L;have r:=ky w [.bool ab] 4;obtain⟨y,P⟩:=aP.1 L;simp at y;subst y;rw[oN,r.cell (by simp)];exact L
 unfold kZ;simp only[Li,tf,mK,oU,aG,aq,iD,iA,iI,iM];go_wp2_with(at_builtin;refine wpList_append_own _ rfl _ _ 63 rfl B 4 i0 (.bool aV) 1 1 Tryz.underlying63 hi F H C rfl (by decide) _ _ _ rfl d ⟨w.heap.size,0,ai⟩ 1 1 [.bool ab] rfl (by simp) f (by simp[Value.oneCell']) (by unfold maxLen;omega) (by omega) (by simp;omega) ?_;intro A w1 k c v;refine Y5 ?_);obtain⟨T,I,rfl⟩:=sw k;have e:∀b,b<w.heap.size->ae b≠(bN O n o).ownBlock->w1.heap[b]?=w.heap[b]?:=λb S E=>by rw[c.block b (by simp;omega) E,bJ _ _ _ S]
 have D:w.heap.size<=w1.heap.size:=by have:=c.size;simp at this;omega
 have U:w1.cell? ⟨G,209,ai⟩=ae (.slice O n o):=by rw[ax (e G t x)];exact m
 have V:w1.frozen? ⟨G,209,ai⟩=aV:=by rw[bm (e G t x)];exact K
 unfold Stop;clear m K f d c v;go_wp2_with(fail);exact⟨_,w1,k,⟨D,e⟩,rfl⟩
def JW(w:an)(G e:Nat)(vB vL vS:ao)(a b c:Int)(D:jb)(s0:Cells)(i:Nat):Prop:=∃f d,iO w G 65 210 (lz e vB vL vS a b c (D.nb+1) (j9 D s0 i).1 (valOf (j9 D s0 i).1 (j9 D s0 i).2) f d)/\w.ownsRow (G+1) 73 4 f i (uw D s0 i)/\w.ownsRow (G+1) 4 1 d i (ud D s0 i)
theorem Tw{V wA:an}{e:Nat}{vB vS:ao}{a' b' c':Int}{D:jb}{s0:Cells}{vL:ao}(aX:D.nl<=24)(T:∀i,i<D.nl->qo (D.ts i))(aN:∀k,s0.1 k=au->ji (s0.2 k))(aR:N<G)(a0:G<V.heap.size){aL:Option bG}{capL:Nat}(m4:V.cell? ⟨N,4,ai⟩=ae (.slice aL D.nl capL))(hL:0<D.nl->∃lb lo,aL=ae ⟨lb,lo,ai⟩/\lb<G/\∃vs:Nat->ao,(∀j,j<D.nl*4->V.cell? ⟨lb,lo+j,ai⟩=ae (vs j))/\∀i,i<D.nl->∀w,pF V w G->mr w (vs (i*4)) (vs (i*4+1)) (vs (i*4+2)) (vs (i*4+3)) (D.ts i))(aa:pF V wA G)(n:iO wA G 65 210 (lz e vB vL vS a' b' c' (D.nb+1) s0.1 (valOf s0.1 s0.2) (.slice ai 0 0) (.slice ai 0 0))){a:Act}(o:kZ N G a)(c:a.tmps.getD 11 aj=.int .i64 ((0:Nat):Int)){Q:Exit->Act->an->Prop}(hQ:∀s w,kZ N G s->pF V w G->JW w G e vB vL vS a' b' c' D s0 D.nl->Q .normal s w):(Code.block 2 (.loop tf)).wp ak Q a wA:=by
 refine wp_block (wp_loop (λs w=>∃i:Nat,i<=D.nl/\kZ N G s/\s.tmps.getD 11 aj=.int .i64 (i:Nat)/\pF V w G/\JW w G e vB vL vS a' b' c' D s0 i) (λs _=>D.nl-(intOf (s.tmps.getD 11 aj)).toNat) ⟨0,bA _,o,c,aa,_,_,n,⟨rfl,.inl ⟨rfl,rfl⟩⟩,⟨rfl,.inl ⟨rfl,rfl⟩⟩⟩ ?_);clear o c n aa a;rintro aW w⟨i,hi,o,c,x,ac⟩;have aQ:=c;have am:=x.cell aR m4;by_cases K:i<D.nl;·obtain⟨lb,lo,rfl,Z,vs,q,hT⟩:=hL (by omega);obtain⟨vr,va,n,X,av⟩:=ac;have aK:=hT i K;have c0:w.cell? ⟨lb,lo+i*4,ai⟩=ae (vs (i*4)):=x.cell Z (q (i*4) (by omega));(have c1:w.cell? ⟨lb,lo+i*4+1,ai⟩=ae (vs (i*4+1)):=by rw[aD];exact x.cell Z (q (i*4+1) (by omega)));(have c2:w.cell? ⟨lb,lo+i*4+2,ai⟩=ae (vs (i*4+2)):=by rw[aD];exact x.cell Z (q (i*4+2) (by omega)));(have c3:w.cell? ⟨lb,lo+i*4+3,ai⟩=ae (vs (i*4+3)):=by rw[aD];exact x.cell Z (q (i*4+3) (by omega)));have aM:=QH T aN i (by omega);rw[Oo];refine wp_seq (iN (aaV o c w am K) ?_);clear o c;rintro ex s w0⟨rfl,⟨o,c⟩,aG⟩;rw[aG];clear aG w0;have aH:j9 D s0 (i+1)=qk (D.ts i) (j9 D s0 i):=rfl;generalize aC:j9 D s0 i=z at*;(have C:w.rangeAt G 8 (ly z.1 (valOf z.1 z.2)):=by intro j u Y;obtain⟨h1,h2⟩:=aP.1 Y;rw[uE]at h1;rw[n.cell (j:=8+j) (by omega)];unfold lz;rw[if_neg (by omega),if_pos (by omega),Nat.add_sub_cancel_left];unfold lc;rw[aZ,Y];rfl);refine wp_seq (wp_block (wp_seq (iN (VU w s N G i o c lb lo D.nl capL am K _ _ _ _ c0 c1 c2 c3 (ly z.1 (valOf z.1 z.2)) (ly (qk (D.ts i) z).1 (valOf (qk (D.ts i) z).1 (qk (D.ts i) z).2)) (kh (nU (D.ts i) z).r) (nU (D.ts i) z).ab (uE _ _) (uE _ _) rfl (all_oneCell_toArray (D8 _ _)) (by simp[kh,Value.oneCell']) C (λw1 O=>WC (T i K) _ _ _ _ w1 (aK w1 (x.below (by omega) O)) z.1 z.2 aM)) ?_)));clear o c s C;rintro ex s w1⟨rfl,⟨o,c⟩,D1,R1,⟨aA,J,v⟩,aU,aY,rD,rR,O⟩;have ah:=x.below (by omega) O;have p:=n.below O;have I:=vV X (w':=w1) λg A=>O.block g (oV X A).2.1;have H:=vV av (w':=w1) λg A=>O.block g (oV av A).2.1;(have ax:ae R1≠vr.ownBlock:=λh=>by have:=(oV X h).2.1;omega);(have aV:D1≠G:=by have:=n.lt;omega);(have aO:R1≠G:=by have:=n.lt;omega);clear O n X av;have ay:w1.there G 8 200:=λj Y=>⟨by rw[p.cell (j:=8+j) (by omega)];rfl,p.frozen _⟩;have aJ:=AH rD (uE _ _);refine wp_seq (iN (Uo o c w1 D1 R1 _ aA J v _ (uE _ _) (all_oneCell_toArray (D8 _ _)) aJ ay) ?_);clear o c aA J v s aJ ay;rintro ex s w2⟨rfl,⟨o,c,J,v⟩,F⟩;(have S:pF V w2 G:=by rw[F];exact ah.W5 _ _);(have m:iO w2 G 65 210 (lz e vB vL vS a' b' c' (D.nb+1) (j9 D s0 (i+1)).1 (valOf (j9 D s0 (i+1)).1 (j9 D s0 (i+1)).2) vr va):=by rw[F,aH];exact(Hs _ 8 w1 _ p).congr λj Y=>VC rfl Y);(have t:=vV I (w':=w2) λg A=>by rw[F];exact BJ _ _ _ (by have:=(oV I A).1;omega));(have B:=vV H (w':=w2) λg A=>by rw[F];exact BJ _ _ _ (by have:=(oV H A).1;omega));(have az:w2.rangeAt R1 0 (kh (nU (D.ts i) z).r):=by rw[F];exact AH (AD rR aO _ _) rfl);clear F p ah I H rD rR w1;(have aw:ae G≠vr.ownBlock:=λh=>by have:=(oV t h).1;omega);(have al:ae G≠va.ownBlock:=λh=>by have:=(oV B h).1;omega);refine wp_seq (iN (YZ w2 N G i s R1 (G+1) i _ vr _ (nU (D.ts i) z).r o c J v (m.cell (j:=208) (by omega)) (m.frozen _) aw az ax (by have:=m.lt;omega) (by omega) t) ?_);clear o c J v s az ax;rintro ex s w3⟨rfl,⟨o,c,v⟩,W,w5,f,⟨y,d⟩,R⟩;have U:=m.lt;(have L:pF V w3 G:=by rw[R];exact pF.set ⟨bn S.1 y,λb O=>by rw[d b (by omega) (λh=>by have:=(oV t h).1;omega)];exact S.2 b O⟩ _ _);(have l:iO w3 G 65 210 (lz e vB vL vS a' b' c' (D.nb+1) (j9 D s0 (i+1)).1 (valOf (j9 D s0 (i+1)).1 (j9 D s0 (i+1)).2) W va):=by rw[R];exact((m.block (d G U aw)).setCell 208 W).congr λj Y=>Yt Y);(have P:=vV f (w':=w3) λg A=>by rw[R];exact aF _ _ _ _ (by show g≠G;have:=(oV f A).1;omega));(have E:=vV B (w':=w3) λg A=>by have h1:=oV B A;rw[R,aF _ _ _ _ (by show g≠G;omega)];exact d g h1.2.1 (λh=>(h1.2.2.ne (oV t h).2.2 (by decide)) rfl));clear R f y d m S t B aw U w5 w2;refine iN (Yp o c w3 _ v (G+1) i va _ (l.cell (j:=209) (by omega)) (l.frozen _) al (by have:=l.lt;omega) (by omega) E) ?_;clear o c v s;rintro ex s w6⟨rfl,⟨o,c⟩,ap,w5,f,⟨y,d⟩,M⟩;have U:=l.lt;(have aB:pF V w6 G:=by rw[M];exact pF.set ⟨bn L.1 y,λb O=>by rw[d b (by omega) (λh=>by have:=(oV E h).1;omega)];exact L.2 b O⟩ _ _);(have ar:iO w6 G 65 210 (lz e vB vL vS a' b' c' (D.nb+1) (j9 D s0 (i+1)).1 (valOf (j9 D s0 (i+1)).1 (j9 D s0 (i+1)).2) W ap):=by rw[M];exact((l.block (d G U al)).setCell 209 ap).congr λj Y=>Zy Y);(have aI:=vV f (w':=w6) λg A=>by rw[M];exact aF _ _ _ _ (by show g≠G;have:=(oV f A).1;omega));(have aE:=vV P (w':=w6) λg A=>by have h1:=oV P A;rw[M,aF _ _ _ _ (by show g≠G;omega)];exact d g h1.2.1 (λh=>(h1.2.2.ne (oV E h).2.2 (by decide)) rfl));clear M f y d l L P E al U w5 w3;refine iN (Sd o c (by omega) w6) ?_;clear o c;rintro ex s' w7⟨rfl,⟨aq,ad⟩,aS⟩;rw[aS];refine⟨⟨i+1,by omega,aq,ad,aB,W,ap,ar,?_,?_⟩,?_⟩;(·rw[AI,aC];exact aE);(·rw[aeo,aC];exact aI);·rw[ad,aQ];simp only[intOf];omega
 ·(obtain rfl:i=D.nl:=by omega);rw[Oo];refine wp_seq (iN (abb o c w am K) ?_);rintro ex s' w'⟨rfl,aq,aT⟩;rw[aT];exact hQ s' w aq x ac
end
theorem zp{nb:Nat}{fb:Nat->Int}{a b c:Int}{nl:Nat}{ts:Nat->iV}{d:Nat}{fs:Nat->Int}(h:mV nb fb a b c nl ts d fs=au):lf nb fb a b c=au/\logAt nl ts=ai/\pq d fs=ai:=by simp only[mV,aN,Option.isNone_iff_eq_none]at h;exact⟨h.1.1,h.1.2,h.2⟩
theorem aib{nb:Nat}{fb:Nat->Int}{a b c:Int}{nl:Nat}{ts:Nat->iV}{d:Nat}{fs:Nat->Int}(h:mV nb fb a b c nl ts d fs=aV):newAt nb fb a b c nl ts d fs≠(0,0)/\0<(newAt nb fb a b c nl ts d fs).1/\(newAt nb fb a b c nl ts d fs).1<=3:=by unfold newAt;cases f:lf nb fb a b c with|false=>simp|true=>cases e:logAt nl ts with|some k=>simp|none=>cases hs:pq d fs with|some k=>simp|none=>simp[mV,f,e,hs]at h
section
variable(w:an)(N:Nat)(vB vL vS:ao)(a b c:Int){nb:Nat}{fb:Nat->Int}{nl:Nat}{ts:Nat->iV}{ns:Nat}{fs:Nat->Int}
theorem ack(t:pJ w N vB vL vS a b c)(o:iT w vB 1 nb fb)(u:lO w vL nl ts)(r:iT w vS 2 ns fs)(p:mV nb fb a b c nl ts ns fs=aV){s:Act}(s1:s.tmps.size=152)(s2:s.defers=[])(s3:s.tmps.getD 1 aj=.pointer (ae ⟨N,0,ai⟩))(e:s.tmps.getD 4 aj=.bool au):mK.wp ak (λex s w'=>ex=.ret/\(s.defers=[]/\s.tmps.getD 2 aj=.pointer ai/\s.tmps.getD 3 aj=.bool au)/\Below w.heap.size w w') s w:=by
 obtain⟨n1,v,y⟩:=aib p;rw[PF];have n:AK.wp ak (λex s w'=>ex=.normal/\(s.tmps.size=152/\s.defers=[]/\s.tmps.getD 1 aj=.pointer (ae ⟨N,0,ai⟩)/\s.tmps.getD 4 aj=.bool au)/\(s.tmps.getD 5 aj=.pointer ai/\s.tmps.getD 6 aj=.int .i64 ((newAt nb fb a b c nl ts ns fs).1:Nat))/\Below w.heap.size w w') s w:=by obtain⟨g,rfl,i⟩:=qK s s1 s2;rw[i]at s3 e;rw[s3,e];exact SG (w:=w) (N:=N) (g:=g) (vB:=vB) (vL:=vL) (vS:=vS) (a:=a) (b:=b) (c:=c) t o u r n1
 refine wp_seq (iN n ?_);clear n s1 s2 s3 e s;rintro ex s w2⟨rfl,⟨s1,s2,s3,e⟩,⟨f,h⟩,d⟩;generalize(newAt nb fb a b c nl ts ns fs).1=cd at*;have q:FI.wp ak (λex s w'=>ex=.normal/\(s.tmps.size=152/\s.defers=[]/\s.tmps.getD 1 aj=.pointer (ae ⟨N,0,ai⟩)/\s.tmps.getD 4 aj=.bool au/\s.tmps.getD 5 aj=.pointer ai/\s.tmps.getD 6 aj=.int .i64 (cd:Nat)/\s.tmps.getD 8 aj=.bool (mV nb fb a b c nl ts ns fs))/\Below w2.heap.size w2 w') s w2:=by obtain⟨g,rfl,i⟩:=qK s s1 s2;rw[i]at s3 e f h;rw[s3,e,f,h];exact Qn (w:=w2) (N:=N) (g:=g) (vB:=vB) (vL:=vL) (vS:=vS) (a:=a) (b:=b) (c:=c) _ _ (t.below d) (o.below d) (u.below d) (r.below d)
 refine wp_seq (iN q ?_);clear q s1 s2 s3 e f h s;rintro ex s l⟨rfl,⟨s1,s2,s3,e,f,h,j⟩,k⟩;rw[p]at j;have x:Al.wp ak (λex s w'=>ex=.ret/\(s.defers=[]/\s.tmps.getD 2 aj=.pointer ai/\s.tmps.getD 3 aj=.bool au)/\w'=l) s l:=by obtain⟨g,rfl,i⟩:=qK s s1 s2;rw[i]at s3 e f h j;rw[s3,e,f,h,j];exact acY (w:=l) (N:=N) (g:=g) (cd:=cd) v y
 refine wp_seq (iN x ?_);rintro ex s z⟨rfl,hs,m⟩;rw[m];exact⟨rfl,hs,d.trans (k.mono d.size)⟩
theorem adU(ao:N<w.heap.size)(hM:pJ w N vB vL vS a b c)(hB:iT w vB 1 nb fb)(hL:lO w vL nl ts)(hS:iT w vS 2 ns fs)(Z:∀j,j<ns->(aY .i64 (fs (2*j+1))).wf=au)(an:∀i,i<nl->∀j,j<(ts i).nc*4->(aY .i64 ((ts i).c j)).wf=au)(hm:mV nb fb a b c nl ts ns fs=au){s:Act}(s1:s.tmps.size=152)(s2:s.defers=[])(s3:s.tmps.getD 1 aj=.pointer (ae ⟨N,0,ai⟩))(t:s.tmps.getD 4 aj=.bool au):mK.wp ak (λex s w'=>ex=.ret/\∃G w2 e r u K R M,(s.defers=[]/\s.tmps.getD 2 aj=.pointer (ae ⟨G,0,ai⟩)/\s.tmps.getD 3 aj=.bool au)/\tn w.heap.size w2 e ⟨nb,fb,nl,ts⟩ a b c r u K R M ns fs/\Below w.heap.size w w2/\w2.heap.size<=G/\(∀x,x<w2.heap.size->w'.heap[x]?=w2.heap[x]?)/\w2.heap.size<=w'.heap.size/\JW w' G e vB vL vS a b c ⟨nb,fb,nl,ts⟩ (kW fs ns,lE fs ns) nl) s w:=by
 obtain⟨y1,y2,y3⟩:=zp hm;have ap:=(C1 y1).1;have aw:=(CJ y2).1;have aq:=(xi y3).1;have W:∀j,j<ns->0<=fs (2*j)/\fs (2*j)<=99:=λj I=>Ar (xi y3).2 ns (aU _) j I;have ah:∀i,i<nl->qo (ts i):=λi hi=>⟨nA (CJ y2).2 hi,an i hi⟩;rw[PF];have h2:AK.wp ak (λex s w'=>ex=.normal/\(s.tmps.size=152/\s.defers=[]/\s.tmps.getD 1 aj=.pointer (ae ⟨N,0,ai⟩)/\s.tmps.getD 4 aj=.bool au)/\(∃e r u K R M,s.tmps.getD 5 aj=.pointer (ae ⟨e,0,ai⟩)/\s.tmps.getD 6 aj=.int .i64 0/\tn w.heap.size w' e ⟨nb,fb,nl,ts⟩ a b c r u K R M ns fs)/\Below w.heap.size w w') s w:=by obtain⟨g,rfl,n⟩:=qK s s1 s2;rw[n]at s3 t;rw[s3,t];exact RN (w:=w) (N:=N) (g:=g) (vB:=vB) (vL:=vL) (vS:=vS) (a:=a) (b:=b) (c:=c) hM hB hL hS Z y1 y2 y3
 refine wp_seq (iN h2 ?_);clear h2 s1 s2 s3 t s;rintro ex s w2⟨rfl,⟨s1,s2,s3,t⟩,⟨e,r,u,K,R,M,p,L,T⟩,f⟩;have h3:FI.wp ak (λex s w'=>ex=.normal/\(s.tmps.size=152/\s.defers=[]/\s.tmps.getD 1 aj=.pointer (ae ⟨N,0,ai⟩)/\s.tmps.getD 4 aj=.bool au/\s.tmps.getD 5 aj=.pointer (ae ⟨e,0,ai⟩)/\s.tmps.getD 6 aj=.int .i64 0/\s.tmps.getD 8 aj=.bool (mV nb fb a b c nl ts ns fs))/\Below w2.heap.size w2 w') s w2:=by obtain⟨g,rfl,n⟩:=qK s s1 s2;rw[n]at s3 t p L;rw[s3,t,p,L];exact Qn (w:=w2) (N:=N) (g:=g) (vB:=vB) (vL:=vL) (vS:=vS) (a:=a) (b:=b) (c:=c) _ _ (hM.below f) (hB.below f) (hL.below f) (hS.below f)
 refine wp_seq (iN h3 ?_);clear h3 s1 s2 s3 t p L s;rintro ex s d⟨rfl,⟨s1,s2,s3,t,p,L,s8⟩,C⟩;rw[hm]at s8;have h4:Al.wp ak (λex s w'=>ex=.normal/\(s.tmps.size=152/\s.defers=[]/\s.tmps.getD 1 aj=.pointer (ae ⟨N,0,ai⟩)/\s.tmps.getD 5 aj=.pointer (ae ⟨e,0,ai⟩))/\w'=d) s d:=by obtain⟨g,rfl,n⟩:=qK s s1 s2;rw[n]at s3 t p L s8;rw[s3,t,p,L,s8];exact Z3 (w:=d) (N:=N) (g:=g) (e:=e)
 refine wp_seq (iN h4 ?_);clear h4 s1 s2 s3 t p L s8 s;rintro ex s av⟨rfl,⟨s1,s2,s3,p⟩,v⟩;rw[v];clear v av;have b3:=f.trans (C.mono f.size);have M3:pJ d N vB vL vS a b c:=iO.below hM b3;obtain⟨aB,m,rfl,-,-⟩:=id hB;obtain⟨aL,capL,rfl,-,aA⟩:=id hL;obtain⟨aS,l,rfl,-,ad⟩:=id hS;have h6:Gb.wp ak (λex s w'=>ex=.normal/\(s.tmps.size=152/\s.defers=[]/\s.tmps.getD 1 aj=.pointer (ae ⟨N,0,ai⟩)/\s.tmps.getD 9 aj=.pointer (ae ⟨d.heap.size,0,ai⟩))/\w'=d.alloc (.cells (yW e (.slice aB nb m) (.slice aL nl capL) (.slice aS ns l) a b c (nb+1)) 65)) s d:=by obtain⟨g,rfl,n⟩:=qK s s1 s2;rw[n]at s3 p;rw[s3,p];exact ajz (w:=d) (N:=N) (g:=g) (e:=e) (vL:=.slice aL nl capL) (vS:=.slice aS ns l) (a:=a) (b:=b) (c:=c) aB nb m ap M3
 refine wp_seq (iN h6 ?_);clear h6 s1 s2 s3 p s;rintro ex s F⟨rfl,o,J⟩;have q:=abL d e (.slice aB nb m) (.slice aL nl capL) (.slice aS ns l) a b c (nb+1);rw[<-J]at q;have ac:Below d.heap.size d F:=by rw[J];exact(bR _ _).alloc (aU _) _
 have O:d.heap.size<F.heap.size:=q.lt;clear J;have b4:=b3.trans (ac.mono b3.size);have M4:pJ F N (.slice aB nb m) (.slice aL nl capL) (.slice aS ns l) a b c:=iO.below hM b4;have aa:N<d.heap.size:=ay ao b3.size;have aE:w.heap.size<=d.heap.size:=b3.size;have az:w2.heap.size<=d.heap.size:=C.size;generalize hG:d.heap.size=G at*;have V:∀x,x<w2.heap.size->F.heap[x]?=w2.heap[x]?:=λx hx=>by rw[ac.block x (by omega),C.block x hx]
 have h7:Hv.wp ak (λex s w'=>ex=.normal/\(kZ N G s/\s.tmps.getD 10 aj=.int .i64 ((0:Nat):Int))/\w'=F) s F:=by obtain⟨s1,s2,s3,A⟩:=o;obtain⟨g,rfl,n⟩:=qK s s1 s2;rw[n]at s3 A;rw[s3,A];exact afQ (w:=F) (N:=N) (G:=G) (g:=g)
 refine wp_seq (wp_seq (iN h7 ?_));clear h7 o s;rintro ex s aC⟨rfl,⟨o,S⟩,z⟩;rw[z];clear z aC;refine SO aq W aa O (M4.cell (j:=5) (by simp)) ?_ q o S ?_;·intro h0;obtain⟨sb,so,ar,H,h⟩:=ad h0;exact⟨sb,so,ar,by omega,λj I=>by rw[ax (b4.block sb H)];exact h j I⟩
 clear o S s;intro s wA o U E;have X:G3.wp ak (λex s w'=>ex=.normal/\(kZ N G s/\s.tmps.getD 11 aj=.int .i64 ((0:Nat):Int))/\w'=wA) s wA:=by obtain⟨s1,s2,s3,A⟩:=o;obtain⟨g,rfl,n⟩:=qK s s1 s2;rw[n]at s3 A;rw[s3,A];exact ahv (w:=wA) (N:=N) (G:=G) (g:=g)
 refine wp_seq (wp_seq (iN X ?_));clear X o s;rintro ex s am⟨rfl,⟨o,Q⟩,y⟩;rw[y];clear y am;refine Tw (D:=⟨nb,fb,nl,ts⟩) (s0:=(kW fs ns,lE fs ns)) aw ah (Oe fs ns Z) aa O (M4.cell (j:=4) (by simp)) ?_ U (E.congr λj I=>G7 (λ_ _=>rfl) (λk _=>(O6 fs ns k).symm) I) o Q ?_;·intro h0;obtain⟨lb,lo,aD,H,vs,h,hT⟩:=aA h0;refine⟨lb,lo,aD,by omega,vs,λj I=>by rw[ax (b4.block lb H)];exact h j I,λi hi w5 P=>?_⟩;exact((hT i hi).all.iZ (w':=w5) ⟨by have:=P.1;have:=b4.size;omega,λb _ hb=>by rw[P.2 b (by omega),b4.block b hb]⟩).rd
 clear o Q s;intro s wB o B Y;have hZ:GX.wp ak (λex s w'=>ex=.ret/\(s.defers=[]/\s.tmps.getD 2 aj=.pointer (ae ⟨G,0,ai⟩)/\s.tmps.getD 3 aj=.bool au)/\w'=wB) s wB:=by obtain⟨s1,s2,s3,A⟩:=o;obtain⟨g,rfl,n⟩:=qK s s1 s2;rw[n]at s3 A;rw[s3,A];exact VZ (w:=wB) (N:=N) (G:=G) (g:=g)
 refine iN hZ ?_;rintro ex s' w9⟨rfl,hs,al⟩;rw[al];exact⟨rfl,G,w2,e,r,u,K,R,M,hs,T,f,az,λx hx=>by rw[B.2 x (by omega)];exact V x hx,by have:=B.1;omega,Y⟩
end
theorem adw:tW=.region 1 (opsL tW).toArray aV:=by kernel_rfl
theorem YY:(opsL tW).toArray=([]++opAt (opsL tW) 0::[opAt (opsL tW) 1]).toArray:=by kernel_rfl
theorem ajc:(opAt (opsL tW) 0).op=.call ⟨.value (.func 33),#[],#[]⟩/\(opAt (opsL tW) 0).guard=ai/\(opAt (opsL tW) 0).dst=ae 15/\(opAt (opsL tW) 1).op=.assign (.tmp 15)/\(opAt (opsL tW) 1).guard=ai/\(opAt (opsL tW) 1).dst=ae 4:=⟨by kernel_rfl,by kernel_rfl,by kernel_rfl,by kernel_rfl,by kernel_rfl,by kernel_rfl⟩
theorem WM(old:jL):∀o∈[]++nK (opAt (opsL tW) 0)::[opAt (opsL tW) 1],mg (jd old) ak o:=qM (by kernel_rfl)
theorem run_assign{P:cj}{o:cz}(ev:aM->ao)(w:an){x:aM}(a:o.op=.assign x):(execOp ev o).run P w=.ok (.value (ev x)) w:=by unfold execOp;simp only[a];simp[go_sem]
theorem L9(T:Array ao):results aG T=pure (.tuple #[T.getD 2 aj,T.getD 3 aj]):=by unfold results;rw[show Tryz.f14.results=#[.tmp 2,.tmp 3]from by kernel_rfl,Array.mapM_eq_mapM_toList];simp
structure oQ(z:Nat)(O:Nat->Nat)(w:an)(G e:Nat)(vB vL vS:ao)(c:iE)(s0:Cells):Prop where
 no:Fz z O G
 law:∃vr va,iO w G 65 210 (lz e vB vL vS (c.W:Nat) (c.C:Nat) (c.K:Nat) (c.D.nb+1) (j9 c.D s0 c.D.nl).1 (valOf (j9 c.D s0 c.D.nl).1 (j9 c.D s0 c.D.nl).2) vr va)/\w.ownsRow (G+1) 73 4 vr c.D.nl (uw c.D s0 c.D.nl)/\w.ownsRow (G+1) 4 1 va c.D.nl (ud c.D s0 c.D.nl)/\(∀g,some g=vr.ownBlock->Fz z O g)/\(∀g,some g=va.ownBlock->Fz z O g)
theorem oQ.moveF{z:Nat}{O O':Nat->Nat}{w w':an}{G e:Nat}{vB vL vS:ao}{c:iE}{s0:Cells}(h:oQ z O w G e vB vL vS c s0)(i:Af z O w w')(o:∀b,b<w.heap.size->O' b=O b):oQ z O' w' G e vB vL vS c s0:=by
 obtain⟨m,n,q,f,j,d,l,k⟩:=h;have no:∀b,b<w.heap.size->Fz z O b->Fz z O' b:=λb r p=>by unfold Fz ou Own at*;rw[o b r];exact p
 refine⟨no G f.lt m,n,q,f.block (i.block G m f.lt),vV j (λg a=>i.block g (l g a) (oV j a).2.1),vV d (λg a=>i.block g (k g a) (oV d a).2.1),λg a=>no g (oV j a).2.1 (l g a),λg a=>no g (oV d a).2.1 (k g a)⟩
theorem oQ.move{z:Nat}{O O':Nat->Nat}{w w':an}{G e:Nat}{vB vL vS:ao}{c:iE}{s0:Cells}(h:oQ z O w G e vB vL vS c s0)(a:Ag z O w w')(d:∀b,b<w.heap.size->O' b=O b):oQ z O' w' G e vB vL vS c s0:=h.moveF a.af d
theorem oQ.re{z:Nat}{O:Nat->Nat}{w:an}{G e:Nat}{vB vL vS:ao}{c:iE}{s0:Cells}(h:oQ z O w G e vB vL vS c s0)(a:Nat->Question->Nat)(d:Nat):oQ z O (w.re a d) G e vB vL vS c s0:=h.move (OW w a d).ag (λ_ _=>rfl)
def DL(z:Nat)(O:Nat->Nat)(w w':an)(G:Nat)(vB vL vS:ao)(c:iE)(a:Nat)(fs:Nat->Int):Prop:=∃O' e d f K R,nG z O' w' e c d f K R (kS c.D a fs)/\iG (λ_=>True) w w'/\(∀b,b<w.heap.size->O' b=O b)/\oQ z O' w' G e vB vL vS c (kW fs a,lE fs a)
theorem DL.re{z:Nat}{O:Nat->Nat}{w w':an}{G:Nat}{vB vL vS:ao}{c:iE}{g:Nat}{fs:Nat->Int}(h:DL z O w w' G vB vL vS c g fs)(a:Nat->Question->Nat)(d:Nat):DL z O w (w'.re a d) G vB vL vS c g fs:=by obtain⟨O',e,b,f,K,R,k,l,j,i⟩:=h;exact⟨O',e,b,f,K,R,k.re a d,l.re a d,j,i.re a d⟩
theorem iT.kI{w w':an}{v:ao}{k n:Nat}{f:Nat->Int}(h:iT w v k n f)(hk:iG (λ_=>True) w w'):iT w' v k n f:=by obtain⟨a,cap,e,i,m⟩:=h;refine⟨a,cap,e,i,λl=>?_⟩;obtain⟨b,off,e1,d,c⟩:=m l;exact⟨b,off,e1,ay d hk.size,λj g=>by rw[hk.cell trivial d];exact c j g⟩
theorem mr.kI{w w':an}{a b c d:ao}{t:iV}(h:mr w a b c d t)(hk:iG (λ_=>True) w w'):mr w' a b c d t:=⟨h.r.kI hk,h.wr.kI hk,h.g.kI hk,h.c.kI hk⟩
theorem lO.kI{w w':an}{v:ao}{n:Nat}{ts:Nat->iV}(h:lO w v n ts)(hk:iG (λ_=>True) w w'):lO w' v n ts:=by obtain⟨a,cap,e,g,m⟩:=h;refine⟨a,cap,e,g,λl=>?_⟩;obtain⟨b,off,e1,d,vs,c,k⟩:=m l;exact⟨b,off,e1,ay d hk.size,vs,λj f=>by rw[hk.cell trivial d];exact c j f,λi hi=>(k i hi).kI hk⟩
section
variable{t0:bq}{old:jL}(h0:lY old t0)(w:an)(hZ:Zero w)(hpos:0<w.heap.size)(vB vL vS:ao)(a b c:Int){nb:Nat}{fb:Nat->Int}{nl:Nat}{ts:Nat->iV}{ns:Nat}{fs:Nat->Int}
include h0 hZ hpos
theorem Rt{Rr:ao->an->Prop}(m:∀s w1,s.tmps.size=152->s.defers=[]->s.tmps.getD 1 aj=.pointer (ae ⟨w.heap.size,0,ai⟩)->s.tmps.getD 4 aj=.bool au->w.heap.size<w1.heap.size->pJ w1 w.heap.size vB vL vS a b c->iG (λ_=>True) w w1->jC (jd old) ak [] mK (QP aG Rr) s w1):kF (jd old) ak 14 #[.agg #[vB,.int .i64 a,.int .i64 b,.int .i64 c,vL,vS]] w Rr:=by
 have F:=(jA old).fits;have C:=(jA old).j7;have B:=C.jV;refine kF.uT F B Tryz.func14 aaC ?_;rw[agj,aiB];change jC _ _ _ _ (QP aG Rr) _ _;refine qU (by kernel_rfl) (λs w'=>(s.tmps.size=152/\s.defers=[]/\s.tmps.getD 1 aj=.pointer (ae ⟨w.heap.size,0,ai⟩))/\(w.heap.size<w'.heap.size/\pJ w' w.heap.size vB vL vS a b c)/\iG (λ_=>True) w w') (λs w' e d f=>⟨f.1,f.2.1,f.2.2.re e d⟩) (λe d=>iN (YL (w.re e d) vB vL vS a b c) λex s w' f=>⟨f.1,f.2.1,?_⟩) ?_;·rw[f.2.2];have r:=ky (w.re e d) [vB,.int .i64 a,.int .i64 b,.int .i64 c,vL,vS] 42;exact⟨⟨r.lt,r⟩,((iG.refl _ _).alloc _).pM⟩
 rintro s w1⟨⟨s1,s2,s3⟩,⟨h,p⟩,hk⟩;refine j6 F B ?_;obtain⟨k,o2,q,t,u,o6⟩:=ajc;rw[adw];refine Bd F C YY k o2 (nS (by kernel_rfl)) Tryz.func33 (by kernel_rfl) (by kernel_rfl) (WM old) (R:=λs' w'=>s'=s/\∃e d,w'=w1.re e d) (λs' w' e d f=>⟨f.1,by obtain⟨n,x,rfl⟩:=f.2;exact⟨e,d,rfl⟩⟩) (λs' w' e d f=>oI f e d) (λe d=>⟨rfl,rfl,e,d,rfl⟩) ?_;rintro s' w'⟨rfl,e,d,rfl⟩;refine⟨λv i=>v=.bool au/\iG (λ_=>True) w1 i,?_,?_⟩;·rw[show(#[]:Array aM).map s'.eval=#[]from by simp];have o:=aei h0 w1 (hZ.iZ hk hpos) (ay hpos hk.size);exactλcs=>(o cs).re e d
 rintro v w2⟨rfl,g⟩j d2;refine wpList_plain u λK l=>kN (run_assign _ _ t) (l _ _ ⟨rfl,?_⟩);rw[q,o6];refine oI ?_ j d2;refine m _ _ (by rw[ko,ko];exact s1) (by rw[put_defers,put_defers];exact s2) (by rw[iL _ (by decide),iL _ (by decide)];exact s3) ?_ (ay h g.size) (p.block (g.block _ trivial h)) (hk.trans g);rw[mF _ (by rw[ko,s1];decide),m7,mF _ (by rw[s1];decide)]
theorem BC(i:iT w vB 1 nb fb)(l:lO w vL nl ts)(j:iT w vS 2 ns fs)(m:mV nb fb a b c nl ts ns fs=aV):kF (jd old) ak 14 #[.agg #[vB,.int .i64 a,.int .i64 b,.int .i64 c,vL,vS]] w λr w'=>r=.tuple #[.pointer ai,.bool au]/\iG (λ_=>True) w w':=by refine Rt h0 w hZ hpos vB vL vS a b c λs w1 s1 s2 s3 k h n hk=>?_;refine kQ L8 (λex s w'=>ex=.ret/\(s.defers=[]/\s.tmps.getD 2 aj=.pointer ai/\s.tmps.getD 3 aj=.bool au)/\iG (λ_=>True) w1 w') (λex a w' f d e=>⟨e.1,e.2.1,e.2.2.re f d⟩) (λex a w' e=>by rw[e.1];trivial) (λf d=>iN (ack (w1.re f d) w.heap.size vB vL vS a b c n ((i.kI hk).re f d) ((l.kI hk).re f d) ((j.kI hk).re f d) m s1 s2 s3 k) λex s w' e=>⟨e.1,e.2.1,(iG.jK e.2.2).pM⟩) ?_;rintro ex s' w'⟨rfl,⟨r1,r2,r3⟩,g⟩;exact⟨.inr rfl,λ_=>⟨_,by rw[L9,r2,r3];rfl,rfl,hk.trans g⟩⟩
theorem Cd{z:Nat}(Q:1<=z){O:Nat->Nat}(F:ou z O 0)(Y:iT w vB 1 nb fb)(hL:lO w vL nl ts)(V:iT w vS 2 ns fs)(y:∀j,j<ns->ji (fs (2*j+1)))(H:∀i,i<nl->∀j,j<(ts i).nc*4->ji ((ts i).c j))(J:mV nb fb a b c nl ts ns fs=au):kF (jd old) ak 14 #[.agg #[vB,.int .i64 a,.int .i64 b,.int .i64 c,vL,vS]] w λr w'=>∃G,r=.tuple #[.pointer (ae ⟨G,0,ai⟩),.bool au]/\DL z O w w' G vB vL vS ⟨⟨nb,fb,nl,ts⟩,a.toNat,b.toNat,c.toNat⟩ ns fs:=by
 have f:=(zp J).1;have ha:((a.toNat:Nat):Int)=a:=by simp only[lf,aN,within_iff]at f;omega
 have hb:((b.toNat:Nat):Int)=b:=by simp only[lf,aN,within_iff]at f;omega
 have hc:((c.toNat:Nat):Int)=c:=by simp only[lf,aN,within_iff]at f;omega
 refine Rt h0 w hZ hpos vB vL vS a b c λs w1 s1 s2 s3 Z u X hk=>?_;have h:0<w1.heap.size:=ay hpos hk.size;have I:Zero w1:=hZ.iZ hk hpos;have N:=(C1 f).1;have T:=(xi (zp J).2.2).1;refine kQ L8 (λex s w'=>ex=.ret/\∃G,(s.defers=[]/\s.tmps.getD 2 aj=.pointer (ae ⟨G,0,ai⟩)/\s.tmps.getD 3 aj=.bool au)/\DL z O w w' G vB vL vS ⟨⟨nb,fb,nl,ts⟩,a.toNat,b.toNat,c.toNat⟩ ns fs) (λex a w' k d m=>⟨m.1,by obtain⟨G,h1,h2⟩:=m.2;exact⟨G,h1,h2.re k d⟩⟩) (λex a w' m=>by rw[m.1];trivial) (λk d=>iN (adU (w1.re k d) w.heap.size vB vL vS a b c u X ((Y.kI hk).re k d) ((hL.kI hk).re k d) ((V.kI hk).re k d) y H J s1 s2 s3 Z) λex s w' m=>⟨m.1,?_⟩) ?_;·obtain⟨G,w2,e,v,A,K,R,M,hs,l,D,hG,t,L,vr,va,l1,S,P⟩:=m.2;refine⟨G,hs,?_⟩;have n:iG (λ_=>True) w1 w2:=(iG.jK D).pM;have p:iG (λ_=>True) w2 w':=⟨L,λx _ o=>t x o⟩;have E:Zero w2:=I.iZ n h;rw[<-ha,<-hb,<-hc]at l l1;have hE:=tn.my (W:=a.toNat) (C:=b.toNat) (Kk:=c.toNat) l N (by omega) (z:=z) Q (O:=O) F E h;have hcut:∀x,G<=x->Fz z (mO (rX z O (w1.re k d).heap.size nb K R M) w2.heap.size) x:=λx o=>⟨pX Q (A7 _ (by omega)),A7 _ (by omega)⟩;refine⟨mO (rX z O (w1.re k d).heap.size nb K R M) w2.heap.size,e,v,A,K,R,hE.iZ p (λx o=>pD _ o),(hk.trans n).trans p,λx o=>?_,hcut G (aU _),vr,va,l1,S,P,λg B=>hcut g (by have:=(oV S B).1;omega),λg B=>hcut g (by have:=(oV P B).1;omega)⟩;have q:x<w1.heap.size:=ay o hk.size;rw[pD _ (ay q n.size)];exact IU _ _ q
 ·rintro ex s' w'⟨rfl,G,⟨r1,r2,r3⟩,U⟩;exact⟨.inr rfl,λ_=>⟨_,by rw[L9,r2,r3];rfl,G,rfl,U⟩⟩
end
theorem tG{old:jL}{w:an}{a:Act}{ids:List Nat}{Q:Exit->Act->an->Prop}{x y:Code}{id k d:Nat}{f:FuncId}{xs:Array aM}{ts:Array bq}{fn:Func}(I:x=.region id ((opsL x).take k++opAt (opsL x) k::(opsL x).drop (k+1)).toArray aV)(p:(opAt (opsL x) k).op=.call ⟨.value (.func f),xs,ts⟩)(K:(opAt (opsL x) k).guard=ai)(hd:(opAt (opsL x) k).dst=ae d)(q:∀a∈xs,kL (jd old) a)(H:Tryz.prog.funcs[f]?=ae fn)(L:fn.body.isNone=aV)(E:(fn.name== "runtime.NumGoroutine")=aV)(r:∀o∈(opsL x).take k++nK (opAt (opsL x) k)::(opsL x).drop (k+1),mg (jd old) ak o)(A:Act->Prop)(l:∀ops w',w'.heap=w.heap->wpList ak ops (λex s b=>ex=.normal/\A s/\b=w') ((opsL x).take k) a w'){args:Array ao}(j:∀s,A s->xs.map s.eval=args){n:ao->an->Prop}(i:kF (jd old) ak f args w n)(u:ao->Act->Prop)(h:∀ops s v w',A s->(∃b,n v b)->wpList ak ops (λex s' b=>ex=.normal/\u v s'/\b=w') ((opsL x).drop (k+1)) (s.put (ae d) v) w')(hk:∀v b s',n v b->u v s'->jC (jd old) ak ids y Q s' b):jC (jd old) ak ids (.seq x y) Q a w:=by
 have F:=(jA old).fits;have C:=(jA old).j7;have B:=C.jV;refine j6 F B ?_;rw[I];refine Bd F C rfl p K q H L E r (R:=λs' w'=>A s'/\∃c d,w'=w.re c d) (λs' w' c d g=>⟨g.1,by obtain⟨J,D,rfl⟩:=g.2;exact⟨c,d,rfl⟩⟩) (λs' w' c d g=>oI g c d) (λc d=>pE (λe s w' g=>⟨g.1,g.2.1,c,d,g.2.2⟩) _ (l _ (w.re c d) rfl)) ?_;rintro s' w'⟨z,c,D,rfl⟩;refine⟨n,?_,?_⟩;·rw[j s' z];exactλcs=>(i cs).re c D
 intro v w2 t m d2;rw[hd];refine pE ?_ _ (h _ s' v (w2.re m d2) z ⟨w2,t⟩);rintro ex s M⟨rfl,G,rfl⟩;exact⟨rfl,oI (hk v w2 s t G) m d2⟩
theorem rz{w w':an}(h:w'.heap=w.heap){a:bG}{v:ao}(b:w.cell? a=ae v):w'.cell? a=ae v:=by unfold bC at*;rw[h];exact b
theorem FK{nb:Nat}{fb:Nat->Int}{a b c:Int}{nl:Nat}{ts:Nat->iV}(d:lf nb fb a b c=au)(f:logAt nl ts=ai):jh ⟨⟨nb,fb,nl,ts⟩,a.toNat,b.toNat,c.toNat⟩:=by have g:=d;simp only[lf,aN,within_iff]at g;exact⟨Ml d f,show 1<=a.toNat/\a.toNat<=8 by omega,show 1<=b.toNat/\b.toNat<=8 by omega,show 1<=c.toNat/\c.toNat<=4 by omega⟩
end
end Go.Proofs.YtldeiiffabfmeaaGreatDoor
namespace Go.Rel
section
open Go.Conc Go.ConcN
variable{ok:ja}{ρ ρ':iR}{P:cj}
def isRow(W:an)(b:Nat):Bool:=match W.heap[b]? with|ae (.cells ..)=>au|_=>aV
mutual def clean(W:an):ao->ao|.bool b=>.bool b|.int k n=>.int k n|.string s=>.string s|.pointer ai=>.pointer ai|.slice ai n c=>.slice ai n c|.map ai=>.map ai|.nilIface=>.nilIface|.pointer (ae a)=>if isRow W a.block then .pointer (ae a)else .nilFunc|.slice (ae a) n c=>if isRow W a.block then .slice (ae a) n c else if n=0/\c=0 then .slice (ae vW) 0 0 else .nilFunc|.agg ⟨x⟩=>.agg ⟨uv W x⟩|.tuple ⟨x⟩=>.tuple ⟨uv W x⟩|_=>.nilFunc def uv(W:an):List ao->List ao|[]=>[]|v::vs=>clean W v::uv W vs end
theorem OS(W:an)(l:List ao):uv W l=l.map (clean W):=by induction l with|nil=>simp[uv]|cons v vs a=>simp[uv,a]
def xr(W:an):iR:=λb a=>b=a/\isRow W b=au
mutual theorem age(W:an):∀v:ao,iP ok (xr W) (clean W v) v|.bool b=>by rw[clean];exact .bool b|.int k n=>by rw[clean];exact .int k n|.string s=>by rw[clean];exact .string s|.pointer ai=>by rw[clean];exact .pg|.slice ai n c=>by rw[clean];exact .nt n c|.map ai=>by rw[clean];exact .pN|.nilIface=>by rw[clean];exact .nilIface|.pointer (ae a)=>by rw[clean];split;(·exact .ptr ⟨⟨rfl,by assumption⟩,rfl,rfl⟩);·exact .j8 trivial|.slice (ae a) n c=>by rw[clean];split;(·exact .slice ⟨⟨rfl,by assumption⟩,rfl,rfl⟩ n c);·split;(·obtain⟨rfl,rfl⟩:=‹n=0/\c=0›;exact .dead _);·exact .j8 trivial|.agg ⟨x⟩=>by rw[clean];exact .agg (Ft W x)|.tuple ⟨x⟩=>by rw[clean];exact .tuple (Ft W x)|.map (ae _)=>by rw[clean.eq_def];exact .j8 trivial|.chan _=>by rw[clean.eq_def];exact .j8 trivial|.func _ _ _=>by rw[clean.eq_def];exact .j8 trivial|.iface _ _=>by rw[clean.eq_def];exact .j8 trivial|.float _ _=>by rw[clean.eq_def];exact .j8 trivial|.complex _ _ _=>by rw[clean.eq_def];exact .j8 trivial|.nilFunc=>by rw[clean.eq_def];exact .j8 trivial theorem Ft(W:an):∀v:List ao,jv ok (xr W) (uv W v) v|[]=>by rw[uv];exact .nil|v::vs=>by rw[uv];exact .cons (age W v) (Ft W vs)end
mutual theorem ajv(W:an):∀v:ao,iP ok (xr W) (clean W v) (clean W v)|.bool b=>by rw[clean];exact .bool b|.int k n=>by rw[clean];exact .int k n|.string s=>by rw[clean];exact .string s|.pointer ai=>by rw[clean];exact .pg|.slice ai n c=>by rw[clean];exact .nt n c|.map ai=>by rw[clean];exact .pN|.nilIface=>by rw[clean];exact .nilIface|.pointer (ae a)=>by rw[clean];split;(·exact .ptr ⟨⟨rfl,by assumption⟩,rfl,rfl⟩);·exact .j8 trivial|.slice (ae a) n c=>by rw[clean];split;(·exact .slice ⟨⟨rfl,by assumption⟩,rfl,rfl⟩ n c);·split;(·obtain⟨rfl,rfl⟩:=‹n=0/\c=0›;exact .dead _);·exact .j8 trivial|.agg ⟨x⟩=>by rw[clean];exact .agg (JE W x)|.tuple ⟨x⟩=>by rw[clean];exact .tuple (JE W x)|.map (ae _)=>by rw[clean.eq_def];exact .j8 trivial|.chan _=>by rw[clean.eq_def];exact .j8 trivial|.func _ _ _=>by rw[clean.eq_def];exact .j8 trivial|.iface _ _=>by rw[clean.eq_def];exact .j8 trivial|.float _ _=>by rw[clean.eq_def];exact .j8 trivial|.complex _ _ _=>by rw[clean.eq_def];exact .j8 trivial|.nilFunc=>by rw[clean.eq_def];exact .j8 trivial theorem JE(W:an):∀v:List ao,jv ok (xr W) (uv W v) (uv W v)|[]=>by rw[uv];exact .nil|v::vs=>by rw[uv];exact .cons (ajv W v) (JE W vs)end
def K0(W:an):Obj->Obj|.cells x t fr=>.cells (x.map (clean W)) t (0,max x.size fr.2+1)|o=>o
def ghost(W:an):an:={W with heap:=W.heap.map (K0 W)}
theorem Jm(W:an)(b:Nat):(ghost W).heap[b]?=(W.heap[b]?).map (K0 W):=by simp[ghost]
theorem Hx(W:an):(ghost W).heap.size=W.heap.size:=by simp[ghost]
theorem Lv(W:an)(a:bG):(ghost W).cell? a=(W.cell? a).map (clean W):=by unfold bC;rw[Jm];cases W.heap[a.block]? with|none=>rfl|some o=>cases o with|cells x t fr=>simp only[bP,K0];split;(·rfl);·simp|_=>rfl
theorem Sy(W:an):(xr W).jN ok:=by
 refine⟨?_,?_,?_⟩;·rintro a b c⟨rfl,_⟩⟨rfl,_⟩;rfl
 ·rintro a a' b⟨rfl,_⟩⟨rfl,_⟩;rfl
 ·rintro a b⟨rfl,_⟩_;rfl
theorem QO{W:an}{b:Nat}(h:isRow W b=au):∃x t fr,W.heap[b]?=ae (.cells x t fr):=by
 unfold isRow at h;split at h;·exact⟨_,_,_,by assumption⟩
 ·cases h
theorem UA{W:an}(c:ok.old=⟨W.heap,W.os,W.output⟩)(a:ok.gs<=W.heap.size)(d:¬ok.lQ):jQ ok (xr W) (ghost W) W:=by refine⟨Sy W,⟨by rw[Hx];exact a,a⟩,λh=>absurd h d,?_,by rw[c];exact⟨rfl,rfl⟩⟩;rintro b j⟨rfl,g⟩;obtain⟨x,t,fr,e⟩:=QO g;refine⟨_,_,by rw[Jm,e];rfl,e,.cells ?_ t ⟨λi k f=>⟨bA _,Nat.lt_succ_of_lt (ay f (Nat.le_max_right ..))⟩,λe=>by simp at e⟩⟩;have:=Ft (ok:=ok) W x.toList;rw[OS]at this;unfold jg;simpa using this
theorem aiU{W:an}{b c:Nat}(h:xr W b c):lH (ghost W) b:=by obtain⟨rfl,a⟩:=h;obtain⟨x,t,fr,e⟩:=QO a;exact⟨_,t,_,by rw[Jm,e];rfl,by simp;exact bn (Nat.le_max_left ..) (Nat.le_succ _)⟩
end
section
open Go.Conc Go.ConcN
theorem aik{ok:ja}{P:cj}{W:an}(a:ok.old=⟨W.heap,W.os,W.output⟩)(c:ok.gs<=W.heap.size)(e:¬ok.lQ)(f:∀g,g<ok.gs->isRow W g=au)(args:Array ao):EY ok P (args.map (clean W)) args (ghost W) W:=by
 have d:qv ok (xr W):=λ_ g h=>⟨rfl,f g h⟩;have r1:jg ok (xr W) (args.map (clean W)) args:=by have:=Ft (ok:=ok) W args.toList;rw[OS]at this;unfold jg;simpa using this
 exact⟨a,⟨xr W,r1,UA a c e,d,λb i h=>aiU h⟩⟩
end
end Go.Rel
namespace Go.Proofs.YtldeiiffabfmeaaGreatDoor
section
open Go.RowKit Go.Maps Go.Rel
theorem ahS(W:an):∀v∈rU,clean W v=.nilFunc:=by intro v a;simp only[rU]at a;simp only[List.mem_toArray,bY,List.not_mem_nil,or_false]at a;rcases a with rfl|rfl|rfl|rfl|rfl|rfl|rfl|rfl|rfl|rfl|rfl<;>rw[clean.eq_def]
theorem CZ{W:an}{t0:bq}{fr:Nat×Nat}(h:W.heap[0]?=ae (.cells rU t0 fr)):Zero (ghost W):=by intro o v a;rw[Lv]at a;unfold bC at a;rw[h]at a;cases hs:rU[o]? with|none=>simp[hs]at a|some u=>simp[hs]at a;rw[<-a];exact ahS W u (bz hs)
theorem EG{W:an}{o:Obj}(h:W.heap[0]?=ae o):0<(ghost W).heap.size:=by rw[Hx];exact(aJ.1 h).1
theorem Db{W:an}{t0:bq}{fr:Nat×Nat}(h:W.heap[0]?=ae (.cells rU t0 fr))(args:Array ao):EY (jd ⟨W.heap,W.os,W.output⟩) ak (args.map (clean W)) args (ghost W) W:=aik rfl (by show 1<=W.heap.size;have:=(aJ.1 h).1;omega) (λh=>h) (λg a=>by(have:g=0:=by have:g<1:=a;omega);subst this;unfold isRow;rw[h]) args
end
end Go.Proofs.YtldeiiffabfmeaaGreatDoor
namespace Go.Proofs.YtldeiiffabfmeaaGreatDoor.Kp
section
open Go.RowKit Go.Rel Go.Proofs.YtldeiiffabfmeaaGreatDoor
section
variable{H:Type}
theorem Mn(d:bh H):1<=ar d:=by cases d with|lit l=>cases l<;>simp[ar]|_=>simp[ar]
theorem Ht{k:Nat}:∀{l:List (bh H)},(∀d,d∈l->k<=ar d)->l.length*k<=aE l|[],_=>by simp[aE]|d::l,h=>by have a:=h d (by simp);have b:=Ht (l:=l) λd hd=>h d (by simp[hd]);simp only[aE,List.length_cons,Nat.succ_mul];omega
theorem Dw{d:bh H}:∀{l:List (bh H)},d∈l->ar d<=aE l|[],h=>by simp at h|x::l,h=>by simp only[aE];rcases bY.1 h with rfl|h;(·omega);·have:=Dw h;omega
theorem L1(l s:List (bh H)):aE l+1<=ar (.slice l s):=by simp only[ar];omega
theorem I2(l:List (bh H)):aE l+1=ar (.agg l):=by simp only[ar]
end
section
variable{H:Type}{enc:bq×ao->H}{w:an}{base:Nat}{held:Bool}
def FU(t:iV):Prop:=∀j,j<t.nc*4->(aY .i64 (t.c j)).wf=au
def za(enc:bq×ao->H)(w:an)(base:Nat)(held:Bool)(e k:Nat):Prop:=∀(n:Nat)(cs:List ao)(x:bh H×List aX),az enc ak w base (λ_=>au) held n e cs=ae x->cs.length=k/\∀j,j<k->∃z,cs[j]?=ae (.int .i64 z)/\(aY .i64 z).wf=au
theorem Ef:Tryz.prog.cellsOf 3=1:=by kernel_rfl
theorem Rc:Tryz.prog.cellsOf 159=2:=by kernel_rfl
theorem Ql:Tryz.prog.cellsOf 161=4:=by kernel_rfl
theorem Qz:Tryz.prog.cellsOf 81=2:=by kernel_rfl
theorem Nd:Tryz.prog.cellsOf 91=4:=by kernel_rfl
theorem PE:Tryz.prog.cellsOf 22=1:=by kernel_rfl
theorem aeB:Tryz.prog.cellsOf 86=1:=by kernel_rfl
theorem aiq:Tryz.prog.cellsOf 87=1:=by kernel_rfl
theorem Uh:Tryz.prog.cellsOf 24=4:=by kernel_rfl
theorem TK:Tryz.prog.cellsOf 25=1:=by kernel_rfl
theorem TY:Tryz.prog.cellsOf 26=1:=by kernel_rfl
theorem Wi:Tryz.prog.cellsOf 42=6:=by kernel_rfl
theorem Gi:za enc w base held 3 1:=by
 intro n cs x h;obtain⟨z,rfl,_,a⟩:=bV bK h;refine⟨rfl,λj b=>⟨z,?_,a⟩⟩;have:j=0:=by omega
 subst this;rfl
theorem vn{n:Nat}{cs:List ao}{o:Nat}{x:Option (bh H×List aX)}{y:bh H×List aX}(h:az enc ak w base (λ_=>au) held n 3 ((cs.drop o).take (Tryz.prog.cellsOf 3))=x)(c:x=ae y):∃z,cs[o]?=ae (.int .i64 z)/\(aY .i64 z).wf=au:=by
 rw[c,Ef]at h;obtain⟨z,a,_,b⟩:=bV bK h;refine⟨z,?_,b⟩;have d:((cs.drop o).take 1)[0]?=ae (.int .i64 z):=by rw[a];rfl
 simpa[bF]using d
theorem Qq{t:Nat}{f0 b:Field}(g:Tryz.prog.underlying t=ae (.struct #[f0,b]))(l:Tryz.prog.cellsOf t=2)(e0:f0.type=3/\f0.offset=0)(e1:b.type=3/\b.offset=1):za enc w base held t 2:=by
 intro n cs x h;obtain⟨xs,k,_,_,f,a,d⟩:=aH g h;refine⟨f.trans l,λj m=>?_⟩;have e:∀i,i<2->∃y,xs[i]?=ae y:=λi hi=>⟨_,aQ (by simp at a;omega)⟩;have:j=0\/j=1:=by omega
 rcases this with rfl|rfl;·obtain⟨y,c⟩:=e 0 (by omega);have:=d 0 f0 rfl;rw[e0.1,e0.2]at this;exact vn this c
 ·obtain⟨y,c⟩:=e 1 (by omega);have:=d 1 b rfl;rw[e1.1,e1.2]at this;exact vn this c
theorem agO:za enc w base held 159 2:=Qq Tryz.underlying159 Rc ⟨rfl,rfl⟩ ⟨rfl,rfl⟩
theorem adn:za enc w base held 81 2:=Qq Tryz.underlying81 Qz ⟨rfl,rfl⟩ ⟨rfl,rfl⟩
theorem Vt:za enc w base held 161 4:=by
 intro n cs x h;obtain⟨xs,k,_,_,e,b,c⟩:=aH Tryz.underlying161 h;refine⟨e.trans Ql,λj f=>?_⟩;have d:∀i,i<4->∃y,xs[i]?=ae y:=λi hi=>⟨_,aQ (by simp at b;omega)⟩;have:j=0\/j=1\/j=2\/j=3:=by omega
 rcases this with rfl|rfl|rfl|rfl;·obtain⟨y,a⟩:=d 0 (by omega);exact vn (c 0 _ rfl) a
 ·obtain⟨y,a⟩:=d 1 (by omega);exact vn (c 1 _ rfl) a
 ·obtain⟨y,a⟩:=d 2 (by omega);exact vn (c 2 _ rfl) a
 ·obtain⟨y,a⟩:=d 3 (by omega);exact vn (c 3 _ rfl) a
def LD(w:an)(v:ao):Prop:=∀ad n c,v=.slice (ae ad) n c->isRow w ad.block=au\/(n=0/\c=0)
theorem aaI{w:an}{a:bG}{v:ao}(h:w.cell? a=ae v):isRow w a.block=au:=by
 unfold bC at h;unfold isRow;split at h;·rename_i e;rw[e]
 ·cases h
theorem LW{t e fuel:Nat}{v:ao}{x:bh H×List aX}(r:Tryz.prog.underlying t=ae (.slice e))(g:0<Tryz.prog.cellsOf e)(h:az enc ak w base (λ_=>au) held fuel t [v]=ae x):LD w v:=by
 intro ad n c k;rcases bw r h with⟨b,_⟩|⟨a,len,cap,m,z,D,y,b,_,A,_,j,_,p⟩;·simp at b;rw[k]at b;cases b
 ·simp at b;rw[k]at b;injection b with b d s;injection b with b;subst b d s;simp only[if_true]at j;subst j;rcases bd m with f|f;(·exact .inr ⟨by omega,f⟩);·obtain⟨cs',d,_⟩:=p 0 f;obtain⟨_,i,o⟩:=bj d;obtain⟨u,q⟩:∃u,cs'[0]?=ae u:=⟨_,aQ (by omega)⟩;have:=(o 0 g).trans q;have l:=aaI this;left;(have e:∀ad:bG,((ad.add (0*Tryz.prog.cellsOf e)).add 0).block=ad.block:=λad=>by simp[Addr.add]);rw[e]at l;exact l
theorem XD{v:ao}{k n:Nat}{f:Nat->Int}(h:iT w v k n f)(p:LD w v):iT (ghost w) (clean w v) k n f:=by obtain⟨a,cap,rfl,l,m⟩:=h;cases a with|none=>exact⟨ai,cap,by rw[clean],l,λg=>by obtain⟨b,off,e,_⟩:=m g;cases e⟩|some ad=>by_cases c:isRow w ad.block=au;(·refine⟨ae ad,cap,by rw[clean,if_pos c],l,λg=>?_⟩;obtain⟨b,off,e,i,d⟩:=m g;exact⟨b,off,e,by rw[Hx];exact i,λj o=>by rw[Lv,d j o];simp only[bP];rw[clean]⟩);·obtain⟨rfl,rfl⟩:=(p ad n cap rfl).resolve_left c;exact⟨ae vW,0,by rw[clean,if_neg c,if_pos ⟨rfl,rfl⟩],by omega,λh=>by omega⟩
def MA(w:an)(v:ao)(n:Nat)(ts:Nat->iV):Prop:=∃a cap,v=.slice a n cap/\n<=1048577/\(0<n->∃b off,a=ae ⟨b,off,ai⟩/\b<w.heap.size/\∃vs:Nat->ao,(∀j,j<n*4->w.cell? ⟨b,off+j,ai⟩=ae (vs j))/\∀i,i<n->mr (ghost w) (clean w (vs (i*4))) (clean w (vs (i*4+1))) (clean w (vs (i*4+2))) (clean w (vs (i*4+3))) (ts i))
theorem aiI{v:ao}{n:Nat}{ts:Nat->iV}(h:MA w v n ts)(m:LD w v):lO (ghost w) (clean w v) n ts:=by obtain⟨a,cap,rfl,i,k⟩:=h;cases a with|none=>exact⟨ai,cap,by rw[clean],i,λf=>by obtain⟨b,off,e,_⟩:=k f;cases e⟩|some ad=>by_cases c:isRow w ad.block=au;(·refine⟨ae ad,cap,by rw[clean,if_pos c],i,λf=>?_⟩;obtain⟨b,off,e,g,vs,d,o⟩:=k f;exact⟨b,off,e,by rw[Hx];exact g,λj=>clean w (vs j),λj l=>by rw[Lv,d j l];rfl,o⟩);·obtain⟨rfl,rfl⟩:=(m ad n cap rfl).resolve_left c;exact⟨ae vW,0,by rw[clean,if_neg c,if_pos ⟨rfl,rfl⟩],by omega,λh=>by omega⟩
theorem agt{t e k fuel:Nat}{cs:List ao}{x:bh H×List aX}(O:Tryz.prog.underlying t=ae (.slice e))(hk:Tryz.prog.cellsOf e=k)(y:0<k)(hi:za enc w base held e k)(h:az enc ak w base (λ_=>au) held fuel t cs=ae x)(S:ar x.1<=1048576):∃v n f,cs=[v]/\iT w v k n f/\n<=1048576/\∀j,j<n*k->(aY .i64 (f j)).wf=au:=by
 rcases bw O h with⟨rfl,rfl⟩|⟨a,len,cap,m,n,D,U,rfl,_,T,_,R,rfl,L⟩;·exact⟨_,0,λ_=>0,rfl,⟨_,_,rfl,by omega,λh=>by omega⟩,by omega,λj u=>by omega⟩
 ·(have P:len<=m:=by rw[R];split<;>omega);(have A:len<=1048576:=by have g:=L1 ((aI len).map D) ((aI (m-len)).map λj=>D (len+j));have C:=Ht (l:=(aI len).map D) (k:=1) λd _=>Mn d;simp at C;simp only at S;omega);rw[hk]at L;rcases bd len with E|E;(·subst E;exact⟨_,0,λ_=>0,rfl,⟨_,_,rfl,by omega,λh=>by omega⟩,by omega,λj u=>by omega⟩);·(have p:∀i,i<len->∀q,q<k->∃z,w.cell? ((a.add (i*k)).add q)=ae (.int .i64 z)/\(aY .i64 z).wf=au:=λi Q q K=>by obtain⟨cs',g,C⟩:=L i (by omega);obtain⟨_,N,I⟩:=bj g;obtain⟨_,o⟩:=hi _ _ _ C;obtain⟨z,F,G⟩:=o q K;exact⟨z,(I q K).trans F,G⟩);obtain⟨b,off,r⟩:=a;(have J:r=ai:=by obtain⟨z,o,_⟩:=p 0 E 0 y;have g:=bM o;rw[cx]at g;unfold Addr.add at g;cases r with|none=>rfl|some s=>simp at g);subst J;(have c:∀j,j<len*k->∃z,w.cell? ⟨b,off+j,ai⟩=ae (.int .i64 z)/\(aY .i64 z).wf=au:=λj u=>by have B:j/k<len:=Nat.div_lt_of_lt_mul (by rw[aW];exact u);obtain⟨z,g,C⟩:=p (j/k) B (j%k) (Nat.mod_lt _ y);rw[aK,aK,aD,show j/k*k+j%k=j from by rw[aW];exact Nat.div_add_mod j k]at g;exact⟨z,g,C⟩);refine⟨_,len,λj=>intOf ((w.cell? ⟨b,off+j,ai⟩).getD aj),rfl,⟨_,_,rfl,by omega,λ_=>⟨b,off,rfl,?_,λj u=>?_⟩⟩,A,λj u=>?_⟩;(·obtain⟨z,o,_⟩:=c 0 (Nat.mul_pos E y);exact aA w _ o);(·obtain⟨z,o,_⟩:=c j u;simp only[o,aq,intOf]);·obtain⟨z,o,M⟩:=c j u;simp only[o,aq,intOf];exact M
theorem zB{t e k fuel:Nat}{cs:List ao}{x:bh H×List aX}(c:Tryz.prog.underlying t=ae (.slice e))(hk:Tryz.prog.cellsOf e=k)(a:0<k)(hi:za enc w base held e k)(h:az enc ak w base (λ_=>au) held fuel t cs=ae x)(g:ar x.1<=1048576):∃v n f,cs=[v]/\iT (ghost w) (clean w v) k n f/\n<=1048576/\∀j,j<n*k->(aY .i64 (f j)).wf=au:=by obtain⟨v,n,f,b,l,i,d⟩:=agt c hk a hi h g;exact⟨v,n,f,b,XD l (LW c (by omega) (b▸h)),i,d⟩
end
section
variable{H:Type}{enc:bq×ao->H}{w:an}{base:Nat}{held:Bool}
theorem Qg{e:Type}{l:List e}(h:l.length=4):∃a b c d,l=[a,b,c,d]:=by match l,h with|[a,b,c,d],_=>exact⟨a,b,c,d,rfl⟩
theorem UG{d:Type}{l:List d}(h:l.length=3):∃a b c,l=[a,b,c]:=by match l,h with|[a,b,c],_=>exact⟨a,b,c,rfl⟩
theorem Tu{g:Type}{l:List g}(h:l.length=6):∃a b c d e f,l=[a,b,c,d,e,f]:=by match l,h with|[a,b,c,d,e,f],_=>exact⟨a,b,c,d,e,f,rfl⟩
theorem take_one{cs:List ao}{q:Nat}{v:ao}(h:(cs.drop q).take 1=[v]):cs[q]?=ae v:=by
 have a:((cs.drop q).take 1)[0]?=ae v:=by rw[h];rfl
 simpa[bF]using a
theorem afg{n:Nat}{cs:List ao}{d:bh H}{p:List aX}(h:az enc ak w base (λ_=>au) held n 91 cs=ae (d,p))(D:ar d<=1048576):5<=ar d/\∃m o q i t,cs[0]?=ae m/\cs[1]?=ae o/\cs[2]?=ae q/\cs[3]?=ae i/\mr (ghost w) (clean w m) (clean w o) (clean w q) (clean w i) t/\FU t:=by
 obtain⟨xs,k,_,hd,K,e,j⟩:=aH Tryz.underlying91 h;simp only[Prod.mk.injEq]at hd;have a:xs.length=4:=e;have I:=I2 (xs.map (·.1));have E:5<=ar d:=by have:=Ht (l:=xs.map (·.1)) (k:=1) λd _=>Mn d;rw[bQ,a]at this;rw[hd.1];omega
 refine⟨E,?_⟩;obtain⟨f,g,c,b,rfl⟩:=Qg a;have part:∀y,y∈[f,g,c,b]->ar y.1<=1048576:=λy v=>by have J:=Dw (d:=y.1) (l:=[f,g,c,b].map (·.1)) (bu.2 ⟨y,v,rfl⟩);rw[hd.1]at D;omega
 have g0:az enc ak w base (λ_=>au) held k 22 ((cs.drop 0).take (Tryz.prog.cellsOf 22))=ae f:=j 0 _ rfl;have u:az enc ak w base (λ_=>au) held k 22 ((cs.drop 1).take (Tryz.prog.cellsOf 22))=ae g:=j 1 _ rfl;have r:az enc ak w base (λ_=>au) held k 86 ((cs.drop 2).take (Tryz.prog.cellsOf 86))=ae c:=j 2 _ rfl;have s:az enc ak w base (λ_=>au) held k 87 ((cs.drop 3).take (Tryz.prog.cellsOf 87))=ae b:=j 3 _ rfl;rw[PE]at g0 u;rw[aeB]at r;rw[aiq]at s;obtain⟨m,n0,f0,c0,r0,s0,_⟩:=zB (x:=f) bl Ef (by omega) Gi g0 (part f (by simp));obtain⟨o,n1,F,c1,r1,s1,_⟩:=zB (x:=g) bl Ef (by omega) Gi u (part g (by simp));obtain⟨q,G,A,c2,r2,s2,_⟩:=zB (x:=c) Tryz.underlying86 Rc (by omega) agO r (part c (by simp));obtain⟨i,z,B,c3,r3,s3,C⟩:=zB (x:=b) Tryz.underlying87 Ql (by omega) Vt s (part b (by simp));exact⟨m,o,q,i,⟨n0,f0,n1,F,G,A,z,B⟩,take_one c0,take_one c1,take_one c2,take_one c3,⟨r0,r1,r2,r3⟩,C⟩
theorem TI{fuel:Nat}{cs:List ao}{x:bh H×List aX}(h:az enc ak w base (λ_=>au) held fuel 25 cs=ae x)(J:ar x.1<=1048576):∃v n ts,cs=[v]/\MA w v n ts/\n<=250000/\∀i,i<n->FU (ts i):=by
 rcases bw bH h with⟨rfl,rfl⟩|⟨a,len,cap,m,n,D,U,rfl,_,T,_,M,rfl,K⟩;·exact⟨_,0,λ_=>⟨0,λ_=>0,0,λ_=>0,0,λ_=>0,0,λ_=>0⟩,rfl,⟨_,_,rfl,by omega,λh=>by omega⟩,by omega,λi hi=>by omega⟩
 ·(have L:len<=m:=by rw[M];split<;>omega);have S:=L1 ((aI len).map D) ((aI (m-len)).map λj=>D (len+j));(have O:∀i,i<len->ar (D i)<=1048576:=λi hi=>by have:=Dw (d:=D i) (l:=(aI len).map D) (bu.2 ⟨i,bX.2 hi,rfl⟩);simp only at J;omega);rw[Nd]at K;(have p:∀i,i<len->5<=ar (D i)/\∃c g f o t,w.cell? ((a.add (i*4)).add 0)=ae c/\w.cell? ((a.add (i*4)).add 1)=ae g/\w.cell? ((a.add (i*4)).add 2)=ae f/\w.cell? ((a.add (i*4)).add 3)=ae o/\mr (ghost w) (clean w c) (clean w g) (clean w f) (clean w o) t/\FU t:=λi hi=>by obtain⟨cs',A,I⟩:=K i (by omega);obtain⟨_,N,r⟩:=bj A;obtain⟨P,c,g,f,o,t,c0,c1,c2,c3,C,hs⟩:=afg I (O i hi);exact⟨P,c,g,f,o,t,(r 0 (by omega)).trans c0,(r 1 (by omega)).trans c1,(r 2 (by omega)).trans c2,(r 3 (by omega)).trans c3,C,hs⟩);(have z:len<=250000:=by(have I:=Ht (l:=(aI len).map D) (k:=5) λd hd=>by obtain⟨i,hi,rfl⟩:=bu.1 hd;exact(p i (bX.1 hi)).1);rw[bQ,List.length_range]at I;simp only at J;omega);rcases bd len with E|E;(·subst E;exact⟨_,0,λ_=>⟨0,λ_=>0,0,λ_=>0,0,λ_=>0,0,λ_=>0⟩,rfl,⟨_,_,rfl,by omega,λh=>by omega⟩,by omega,λi hi=>by omega⟩);·obtain⟨b,off,u⟩:=a;(have F:u=ai:=by obtain⟨_,c,_,_,_,_,Q,_⟩:=p 0 E;have A:=bM Q;rw[cx]at A;unfold Addr.add at A;cases u with|none=>rfl|some s=>simp at A);subst F;(have G:∀i,∃t:iV,i<len->∃c g f o,w.cell? ⟨b,off+i*4,ai⟩=ae c/\w.cell? ⟨b,off+(i*4+1),ai⟩=ae g/\w.cell? ⟨b,off+(i*4+2),ai⟩=ae f/\w.cell? ⟨b,off+(i*4+3),ai⟩=ae o/\mr (ghost w) (clean w c) (clean w g) (clean w f) (clean w o) t/\FU t:=λi=>by by_cases hi:i<len;(·obtain⟨_,c,g,f,o,t,c0,c1,c2,c3,C,hs⟩:=p i hi;rw[aK,aK]at c0 c1 c2 c3;exact⟨t,λ_=>⟨c,g,f,o,c0,by rw[<-aD];exact c1,by rw[<-aD];exact c2,by rw[<-aD];exact c3,C,hs⟩⟩);·exact⟨⟨0,λ_=>0,0,λ_=>0,0,λ_=>0,0,λ_=>0⟩,λh=>absurd h hi⟩);obtain⟨ts,q⟩:=Classical.skolem.1 G;refine⟨_,len,ts,rfl,⟨_,_,rfl,by omega,λ_=>⟨b,off,rfl,?_,λj=>(w.cell? ⟨b,off+j,ai⟩).getD aj,λj R=>?_,λi hi=>?_⟩⟩,z,λi hi=>?_⟩;(·obtain⟨c,_,_,_,c0,_⟩:=q 0 E;exact aA w _ c0);(·(have B:j/4<len:=by omega);obtain⟨c,g,f,o,c0,c1,c2,c3,_⟩:=q (j/4) B;(have:j=j/4*4\/j=j/4*4+1\/j=j/4*4+2\/j=j/4*4+3:=by omega);rcases this with e|e|e|e;(·(have y:w.cell? ⟨b,off+j,ai⟩=ae c:=by rw[e];exact c0);simp only[y,aq]);(·(have y:w.cell? ⟨b,off+j,ai⟩=ae g:=by rw[e];exact c1);simp only[y,aq]);(·(have y:w.cell? ⟨b,off+j,ai⟩=ae f:=by rw[e];exact c2);simp only[y,aq]);·(have y:w.cell? ⟨b,off+j,ai⟩=ae o:=by rw[e];exact c3);simp only[y,aq]);(·obtain⟨c,g,f,o,c0,c1,c2,c3,C,_⟩:=q i hi;simp only[c0,c1,c2,c3,aq];exact C);·obtain⟨_,_,_,_,_,_,_,_,_,hs⟩:=q i hi;exact hs
theorem Eo{r:Reach}{b0:Nat}{v:ao}{d:bh H}{p:List aX}(hv:Value.okWide ak w r b0 42 v)(h:DataW.Trod enc ak w base (λ_=>au) held 42 v d p)(hB:ar d<=1048576):∃(nb nl F:Nat)(fb fs:Nat->Int)(ts:Nat->iV)(a b c:Int)(vB vL vS:ao),v=.agg #[vB,.int .i64 a,.int .i64 b,.int .i64 c,vL,vS]/\iT (ghost w) (clean w vB) 1 nb fb/\lO (ghost w) (clean w vL) nl ts/\iT (ghost w) (clean w vS) 2 F fs/\nb<=1048576/\nl<=250000/\F<=1048576/\(∀i,i<nl->FU (ts i))/\∀j,j<F->(aY .i64 (fs (2*j+1))).wf=au:=by
 obtain⟨cs,rfl,ac⟩:=cg bI hv;obtain⟨fuel,R⟩:=h;obtain⟨xs,k,_,hd,hl,s,P⟩:=aH bI R;simp only[Prod.mk.injEq]at hd;have m:xs.length=3:=s;have hb:=I2 (xs.map (·.1));obtain⟨E,q,z,rfl⟩:=UG m;have part:∀y,y∈[E,q,z]->ar y.1<=1048576:=λy Y=>by have h1:=Dw (d:=y.1) (l:=[E,q,z].map (·.1)) (bu.2 ⟨y,Y,rfl⟩);rw[hd.1]at hB;omega
 have g0:az enc ak w base (λ_=>au) held k 24 (((bD cs).cells.toList.drop 0).take (Tryz.prog.cellsOf 24))=ae E:=P 0 _ rfl;have G:az enc ak w base (λ_=>au) held k 25 (((bD cs).cells.toList.drop 4).take (Tryz.prog.cellsOf 25))=ae q:=P 1 _ rfl;have N:az enc ak w base (λ_=>au) held k 26 (((bD cs).cells.toList.drop 5).take (Tryz.prog.cellsOf 26))=ae z:=P 2 _ rfl;rw[Uh]at g0;rw[TK]at G;rw[TY]at N;have S:cs.toList.length=6:=hl.trans Wi;obtain⟨q0,q1,q2,D,B,A,C⟩:=Tu S;have f:(bD cs).cells.toList=[q0,q1,q2,D,B,A]:=C;rw[f]at g0 G N;obtain⟨vL,nl,ts,cL,rL,Z,M⟩:=TI (x:=q) G (part q (by simp));replace rL:=aiI rL (LW (x:=q) bH (by rw[Nd];omega) (cL▸G));obtain⟨vS,F,fs,T,rS,sS,wS⟩:=zB (x:=z) Tryz.underlying26 Qz (by omega) adn N (part z (by simp));obtain⟨X,I,_,O,aa,n,e⟩:=aH (x:=E) Tryz.underlying24 g0;have g:X.length=4:=n;obtain⟨o,L,J,Q,rfl⟩:=Qg g;have K:ar o.1<=1048576:=by have h1:=Dw (d:=o.1) (l:=[o,L,J,Q].map (·.1)) (by simp);have h2:=I2 ([o,L,J,Q].map (·.1));have V:=part E (by simp);rw[O]at V;simp only at V;omega
 have e0:az enc ak w base (λ_=>au) held I 22 ((([q0,q1,q2,D,B,A].drop 0).take 4).drop 0|>.take (Tryz.prog.cellsOf 22))=ae o:=e 0 _ rfl;have e1:az enc ak w base (λ_=>au) held I 3 ((([q0,q1,q2,D,B,A].drop 0).take 4).drop 1|>.take (Tryz.prog.cellsOf 3))=ae L:=e 1 _ rfl;have e2:az enc ak w base (λ_=>au) held I 3 ((([q0,q1,q2,D,B,A].drop 0).take 4).drop 2|>.take (Tryz.prog.cellsOf 3))=ae J:=e 2 _ rfl;have e3:az enc ak w base (λ_=>au) held I 3 ((([q0,q1,q2,D,B,A].drop 0).take 4).drop 3|>.take (Tryz.prog.cellsOf 3))=ae Q:=e 3 _ rfl;rw[PE]at e0;obtain⟨vB,nb,fb,U,rB,sB,_⟩:=zB (x:=o) bl Ef (by omega) Gi e0 K;obtain⟨a,W,_⟩:=vn e1 rfl;obtain⟨b,u,_⟩:=vn e2 rfl;obtain⟨c,t,_⟩:=vn e3 rfl;simp at W u t U cL T;subst W u t U cL T;exact⟨nb,nl,F,fb,fs,ts,a,b,c,_,_,_,congrArg bD (Array.ext' C),rB,rL,rS,sB,Z,sS,M,λj hj=>wS _ (by omega)⟩
end
end
end Go.Proofs.YtldeiiffabfmeaaGreatDoor.Kp
