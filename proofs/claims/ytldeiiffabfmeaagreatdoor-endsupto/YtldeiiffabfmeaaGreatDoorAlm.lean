/- - -/
import Derived.Test.YtldeiiffabfmeaaGreatDoorAkm
set_option linter.all false
set_option maxRecDepth 100000
set_option maxHeartbeats 4000000
open Go renaming undef->I,Value->Y,World->Z,Code->ae,Oper->ao,TypeId->aq,Addr->aA,Exit->aG,Operand->aM,Question->aX,Frame->bj
open Option renaming some->J,none->X,getD_some->W,map_some->bG
open Go.Value renaming int->U,slice->N,pointer->m,bool->G,func->ax,nilFunc->aH,agg->aU
open Go.IntKind renaming i64->V
open Bool renaming false->L,true->ah,and_eq_true->bM
open Go.Proofs.Tryz renaming prog->A,f36->C,f67->bh,f15->bm,func67->bQ,func36->bT,f33->bX
open Go.Obj renaming cells->ai
open Go.Exit renaming normal->aj,ret->aY,inBlock->bE
open Go.Code renaming seq->ak,skip->aN,region->aV,cond->aW,block->bD
open Go.Operand renaming tmp->an,func->bd
open Nat renaming le_trans->ar,lt_of_lt_of_le->au,le_refl->aK,zero_add->aP,lt_trans->bH
open Go.Fn renaming func->ay
open Or renaming inr->az,inl->aQ
open Go.Item renaming inRegion->aD
open Go.World renaming cell?->aE,size_alloc->aI,block_lt_of_cell?->bC
open List renaming range->aF,mem_of_getElem?->aJ,all_eq_true->aZ,range'->bl,getElem?_append_right->bn,getElem?_eq_some_iff->bq,getElem?_eq_getElem->bu,getElem?_toArray->bA,getElem?_map->bB,mem_cons->bI,forall_mem_cons->bJ,range'_succ->bK,take->bN,drop->bO,length_filter_le->bP,mem_iff_getElem?->bR,map_cons->bU,map_nil->bV
open Go.RowKit.Below renaming heap_alloc->bg,refl->bz
open Array renaming replicate->bw
open Go.Calls renaming regrown_of->bF
variable{v x y d g h j l:Nat}{n p q r s:Y}{t F H:Z}{Q T:Go.Act}
namespace Go.Proofs.YtldeiiffabfmeaaGreatDoor
noncomputable section
open Go.RowKit Go.Maps Go.Rel
def Cf{w:Z}{a:aA}(h:w.cell? a=J n):vw w a.block:=by
 unfold aE at h;split at h;.rename_i x t fr e;exact⟨x,t,fr,e⟩
 .cases h
def vw.lt{w:Z}{b:Nat}(h:vw w b):b<w.heap.size:=by obtain⟨x,t,fr,e⟩:=h;grind
def Zero(w:Z):Prop:=∀o v,w.cell? ⟨0,o,X⟩=J v->v=aH
def xJ(w:Z)(v:Y):Prop:=∀a n c,v=N (J a) n c->vw w a.block
noncomputable section
variable{wh:Z}{pa:aA}{i:Nat}{ent:qM}{x0:Array Y}{t0:aq}
def ru(wh:Z)(pa:aA)(i:Nat)(ent:qM)(x0:Array Y)(t0:aq):Z:=tP (ll (lD wh pa) i ent) x0 t0
def E7{b:Nat}(h:b<wh.heap.size):(ll (lD wh pa) i ent).heap[b]?=(wh.heap[b]?).map yT:=by unfold ll;rw[bg _ _ _<|by simp[vk];omega,bg _ _ _<|by simp[vk];omega,zn h]
def On{k:Nat}(h:k<3):(ll (lD wh pa) i ent).heap[wh.heap.size+k]?=(lD wh pa).heap[wh.heap.size+k]?:=by unfold ll;rw[bg _ _ _<|by simp[vk];omega,bg _ _ _<|by simp[vk];omega]
def YG:(ll (lD wh pa) i ent).heap[wh.heap.size+3]?=J (ai #[U V i] 3):=by unfold ll;rw[bg _ _ _<|by simp[vk]];have:=heap_alloc_new (lD wh pa)<|ai #[U V i] 3;rw[vk]at this;exact this
def IP:(ll (lD wh pa) i ent).heap[wh.heap.size+4]?=J (ai ent.cells 173):=by unfold ll;have:=heap_alloc_new ((lD wh pa).alloc<|ai #[U V i] 3)<|ai ent.cells 173;rw[aI,vk]at this;exact this
def FY{b:Nat}(h:vw wh b):nI (ll (lD wh pa) i ent) b=ah:=by have a:=h.lt;obtain⟨x,t,fr,e⟩:=h;exact BP.2 ⟨x,t,_,by rw[E7 a,e];rfl⟩
def Bx{b:Nat}{x:Array Y}{t:aq}{fr:Nat×Nat}(h:(ll (lD wh pa) i ent).heap[b]?=J (ai x t fr))(d:b≠0)(c:x[j]?=J n)(a:mask (nI<|ll (lD wh pa) i ent) n=n):(ru wh pa i ent x0 t0).cell? ⟨b,j,X⟩=J n:=by unfold aE ru;simp only[xT,h,bG,d,if_false,za];simp[c,a]
def wK{a:aA}(h:wh.cell? a=J n)(d:a.block≠0)(e:mask (nI<|ll (lD wh pa) i ent) n=n):(ru wh pa i ent x0 t0).cell? a=J n:=by have b:=(Cf h).lt;unfold aE at h⊢;unfold ru;rw[xT,E7 b];cases c:wh.heap[a.block]? with|none=>grind|some o=>rw[c]at h;cases o with|cells x t fr=>simp only[bG,yT,d,if_false,za]at h⊢;grind|_=>cases h
def AP(K:Nat->Bool)(k:IntKind)(n:Int):mask K (U k n)=U k n:=by rw[mask]
def NT{K:Nat->Bool}{a:aA}(h:K a.block=ah):mask K (m<|J a)=m (J a):=by rw[mask,if_pos h]
def Cx{a:Option aA}{n c:Nat}(h:xJ wh<|N a n c):mask (nI<|ll (lD wh pa) i ent) (N a n c)=N a n c:=by cases a with|none=>rw[mask]|some b=>rw[mask,if_pos<|FY<|h b n c rfl]
def xk(d:Zero wh){a:aA}(h:wh.cell? a=J n)(c:n≠aH):a.block≠0:=by obtain⟨b,o,s⟩:=a;intro e;simp only at e;subst e;cases s with|none=>exact c<|d o n h|some s=>unfold aE at h;grind
def Hb:wh.heap.size<(ru wh pa i ent x0 t0).heap.size:=by unfold ru;rw[Km];have:=(Array.getElem?_eq_some_iff.1<|IP (wh:=wh) (pa:=pa) (i:=i) (ent:=ent)).1;omega
def FQ(g:Zero wh){k n:Nat}{f:Nat->Int}(hk:0<k)(h:iQ wh p k n f):iQ (ru wh pa i ent x0 t0) p k n f:=by obtain⟨a,cap,rfl,l,q⟩:=h;refine⟨a,cap,rfl,l,λo=>?_⟩;obtain⟨b,off,rfl,d,c⟩:=q o;exact⟨b,off,rfl,bH d Hb,λj e=>wK (c j e) (xk g (c j e)<|by simp)<|AP ..⟩
def TU{b:Nat}(h:vw wh b):vw (ru wh pa i ent x0 t0) b:=by
 have a:=h.lt;obtain⟨x,t,fr,e⟩:=h;unfold vw ru;rw[xT,E7 a,e];by_cases c:b=0;.simp[c]
 .simp[c,yT,za]
def Mv(r:Zero wh){n:Nat}{c:List Y}(h:qL wh p v n c)(t:∀u∈c,mask (nI<|ll (lD wh pa) i ent) u=u/\u≠aH):qL (ru wh pa i ent x0 t0) p v n c:=by obtain⟨a,cap,rfl,s,q,l,d⟩:=h;refine⟨a,cap,rfl,s,q,⟨l.1,λb e=>TU<|l.2 b e⟩,λb e=>⟨λg=>⟨((d b e).1 g).1,bH ((d b e).1 g).2 Hb⟩,λj u f=>?_⟩⟩;have o:=(d b e).2 j u f;have k:=t u<|aJ f;exact wK o (xk r o k.2) k.1
def IY{n:Nat}{b:List Y}(h:qL wh p v n b):xJ wh p:=by obtain⟨a,cap,rfl,_,_,d,_⟩:=h;intro c g f e;grind
def Z3(K:Nat->Bool)(l:List<|Nat×Int):∀u∈mL l,mask K u=u/\u≠aH:=by induction l with|nil=>simp[mL]|cons p l a=>simp only[mL,bI];rintro u(rfl|rfl|h)<;>first|exact⟨AP ..,by simp⟩|exact a u h
def LV(a:Zero wh){l:List<|Nat×Int}(h:pA wh n l):pA (ru wh pa i ent x0 t0) n l:=Mv a h<|Z3 _ l
def Mo(c:Zero wh){b:List Y}{l:List jw}(h:sq wh b l):sq (ru wh pa i ent x0 t0) b l/\∀u∈b,mask (nI<|ll (lD wh pa) i ent) u=u/\u≠aH:=by induction h with|nil=>exact⟨.nil,by simp⟩|cons h _ d=>refine⟨.cons (LV c h) d.1,?_⟩;simp only[bI];rintro u(rfl|rfl|rfl|e);(.exact⟨AP ..,by simp⟩);(.exact⟨AP ..,by simp⟩);(.obtain⟨a,cap,rfl,_⟩:=id h;exact⟨Cx<|IY h,by simp⟩);grind
def aey(a:Zero wh){l:List jw}(h:uj wh n l):uj (ru wh pa i ent x0 t0) n l:=by obtain⟨d,c,b⟩:=h;exact⟨d,Mv a c (Mo (x0:=x0) (t0:=t0) a b).2,(Mo a b).1⟩
def agj(e:Zero wh){a b c d:Y}{t:iP}(h:lE wh a b c d t):lE (ru wh pa i ent x0 t0) a b c d t:=⟨FQ e (by omega) h.r,FQ e (by omega) h.wr,FQ e (by omega) h.g,FQ e (by omega) h.c⟩
def Uy(j:Zero wh){K off e lb lo nl lc iz:Nat}{a b c d:Y}{t:iP}{kept:List<|Nat×Int}{l:List jw}(B:pa=⟨K,off,X⟩)(yK:wh.cell? ⟨K,off+1,X⟩=J (m<|J ⟨e,0,X⟩))(zZ:wh.cell? ⟨K,off+5+4,X⟩=J p)(cL:wh.cell? ⟨e,4,X⟩=J (N (J ⟨lb,lo,X⟩) nl lc))(w:ent.iz=iz)(z:wh.cell? ⟨lb,lo+iz*4,X⟩=J a)(F:wh.cell? ⟨lb,lo+iz*4+1,X⟩=J b)(D:wh.cell? ⟨lb,lo+iz*4+2,X⟩=J c)(E:wh.cell? ⟨lb,lo+iz*4+3,X⟩=J d)(rT:lE wh a b c d t)(ra:xJ wh a)(rb:xJ wh b)(rc:xJ wh c)(rd:xJ wh d)(rK:pA wh (N ent.ka ent.kn ent.kc) kept)(rP:uj wh p l)(H:∀k:Nat,1<=k->k<=10->x0[k]?=J (ax (ay<|zp k) #[] #[])):Wk (ru wh pa i ent x0 t0) wh.heap.size off K e iz i lb lo nl lc ent.ka ent.kn ent.kc p a b c d t kept l:=by
 subst B;have O:wh.heap.size≠0:=by have:=(Cf yK).lt;omega
 have sl:∀{x:Y},xJ wh x->(∃s q r,x=N s q r)->mask (nI<|ll (lD wh ⟨K,off,X⟩) i ent) x=x/\x≠aH:=by rintro x M⟨s,q,r,rfl⟩;exact⟨Cx M,by simp⟩
 have o:∀{x:Y}{k n:Nat}{f:Nat->Int},iQ wh x k n f->∃s q r,x=N s q r:=λh=>by obtain⟨s,q,e,_⟩:=h;grind
 have y:=Cf z;have u:=Cf yK;have v:=Cf cL;refine⟨Bx (by have:=On (wh:=wh) (pa:=⟨K,off,X⟩) (i:=i) (ent:=ent) (k:=0) (by omega);rw[Nat.add_zero]at this;rw[this];exact BC) O (by simp)<|NT<|FY u,Bx (by rw[On<|by omega];exact CO) (by omega) (by simp)<|by rw[mask],Bx YG (by omega) (by simp)<|AP ..,Bx IP (by omega) (by simp[qM.cells,w])<|AP ..,Bx IP (by omega) (by simp[qM.cells])<|Cx<|IY rK,wK yK (xk j yK<|by simp)<|NT<|FY v,?_,wK cL (xk j cL<|by simp)<|Cx λR n c S=>by grind,wK z (xk j z (sl ra<|o rT.r).2) (sl ra<|o rT.r).1,wK F (xk j F (sl rb<|o rT.wr).2) (sl rb<|o rT.wr).1,wK D (xk j D (sl rc<|o rT.g).2) (sl rc<|o rT.g).1,wK E (xk j E (sl rd<|o rT.c).2) (sl rd<|o rT.c).1,agj j rT,LV j rK,aey j rP,Nat.lt_of_le_of_lt (Nat.zero_le _) Hb,λk k1 k2=>?_⟩;.obtain⟨Q,r1,_⟩:=id rP;have P:=IY r1;obtain⟨s,q,rfl,_⟩:=id r1;exact wK zZ (xk j zZ<|by simp)<|Cx P
 .unfold aE ru;rw[xT,E7 (b:=0)<|by omega];grind
def rV{w:Z}(a:t.heap=w.heap){p:aA}(h:w.cell? p=J n):t.cell? p=J n:=by unfold aE at*;rw[a];exact h
def iQ.same{w w':Z}(d:w'.heap=w.heap){k n:Nat}{f:Nat->Int}(h:iQ w p k n f):iQ w' p k n f:=by obtain⟨a,cap,rfl,l,q⟩:=h;refine⟨a,cap,rfl,l,λo=>?_⟩;obtain⟨b,off,rfl,e,c⟩:=q o;exact⟨b,off,rfl,by grind,λj g=>rV d<|c j g⟩
def qL.same{w w':Z}(f:w'.heap=w.heap){n:Nat}{c:List Y}(h:qL w p v n c):qL w' p v n c:=by obtain⟨a,cap,rfl,o,q,g,d⟩:=h;refine⟨a,cap,rfl,o,q,⟨g.1,λb e=>?_⟩,λb e=>⟨λl=>⟨((d b e).1 l).1,by grind⟩,λj u k=>rV f<|(d b e).2 j u k⟩⟩;unfold vw;rw[f];exact g.2 b e
def sq.same{w w':Z}(c:w'.heap=w.heap){a:List Y}{l:List jw}(h:sq w a l):sq w' a l:=by induction h with|nil=>exact .nil|cons h _ b=>exact .cons (qL.same c h) b
def lE.same{w w':Z}(e:w'.heap=w.heap){a b c d:Y}{t:iP}(h:lE w a b c d t):lE w' a b c d t:=⟨h.r.same e,h.wr.same e,h.g.same e,h.c.same e⟩
def Wk.same{w w':Z}(f:w'.heap=w.heap){off K e iz i lb lo nl lc:Nat}{g:Option aA}{kn kc:Nat}{a b c d:Y}{t:iP}{kept:List<|Nat×Int}{l:List jw}(h:Wk w v off K e iz i lb lo nl lc g kn kc n a b c d t kept l):Wk w' v off K e iz i lb lo nl lc g kn kc n a b c d t kept l:=⟨rV f h.cP,rV f h.cC,rV f h.cI,rV f h.E3,rV f h.I0,rV f h.yK,rV f h.zZ,rV f h.cL,rV f h.t0,rV f h.t1,rV f h.t2,rV f h.t3,h.rT.same f,qL.same f h.rK,by obtain⟨o,p1,j⟩:=h.rP;exact⟨o,p1.same f,j.same f⟩,by rw[f];exact h.st.1,λk k1 k2=>rV f<|h.st.2 k k1 k2⟩
def Wk.re{w:Z}{off K e iz i lb lo nl lc:Nat}{f:Option aA}{kn kc:Nat}{a b c d:Y}{t:iP}{kept:List<|Nat×Int}{l:List jw}(h:Wk w v off K e iz i lb lo nl lc f kn kc n a b c d t kept l)(g:Nat->aX->Nat)(j:Nat):Wk (w.re g j) v off K e iz i lb lo nl lc f kn kc n a b c d t kept l:=Wk.same (w:=w) (w':=w.re g j) rfl h
end
def jW.re{O:Nat->Nat}{w:Z}{e:Nat}{c:iB}{K R:Nat}{E:iE}(h:jW v O w e c n p K R E t)(i:Nat->aX->Nat)(d:Nat):jW v O w e c n p K R E<|t.re i d:=by obtain⟨b,j,f,a,g⟩:=h;exact⟨b,j,f.move (λ_ _=>rfl) (aK _) λ_ _=>rfl,⟨a.size,a.block⟩,g⟩
def iS.re{O:Nat->Nat}{w:Z}{e:Nat}{c:iB}{K R:Nat}{f:Nat->Y}{E:iE}(h:iS v O w e c n p K R f E)(a:Nat->aX->Nat)(d:Nat):iS v O (w.re a d) e c n p K R f E:=h.move (λ_ _=>rfl) (aK _) λ_ _=>rfl
def zh(z:Nat)(O:Nat->Nat)(w:Z)(b:Y)(nl:Nat):Prop:=∃lb lo lc,b=N (J ⟨lb,lo,X⟩) nl lc/\∀a,Af z O w a->∀j,j<nl*4->∃v,a.cell? ⟨lb,lo+j,X⟩=J v/\xJ a v
def zh.moveF{O c:Nat->Nat}{w:Z}{nl:Nat}(h:zh v O w n nl)(d:Af v O w t)(i:∀b,b<w.heap.size->c b=O b):zh v c t n nl:=by obtain⟨lb,lo,lc,g,e⟩:=h;exact⟨lb,lo,lc,g,λa f=>e a<|d.step f i⟩
def zh.move{O O':Nat->Nat}{w:Z}{nl:Nat}(h:zh v O w n nl)(c:Ag v O w t)(a:∀b,b<w.heap.size->O' b=O b):zh v O' t n nl:=h.moveF c.af a
def Zero.move{O:Nat->Nat}{w:Z}(h:Zero w)(c:ph v O 0)(d:Ag v O w t)(hs:0<w.heap.size):Zero t:=by intro o b a;have e:=d.block 0 c hs;refine h o b ?_;unfold aE at a⊢;rw[<-e];exact a
def qn(K p R nl:Nat)(i h g c b e d f a:Y):Array Y:=#[m<|J ⟨K,p*10,X⟩,N (J ⟨R,0,X⟩) nl nl,I,I,i,h,I,I,I,g,c,b,e,d,f,a,I,I,I,I,I,I,I,I,I,I,I,I,I,I,I,I,I,I,I,I,I,I,I,I,I,I,I,I,I,I,I,I,I,I,I]
def aeE(K p R nl:Nat)(w:Z):q0.wp A (λex a b=>ex=aj/\a=⟨qn K p R nl (G L) I I I I I I I I,[]⟩/\b=w) ⟨qn K p R nl I I I I I I I I I,[]⟩ w:=by simp only[q0,ti,bh,W,iA,iy,qn];go_wp2
noncomputable section
variable(z:Nat)(O:Nat->Nat)(w:Z)(e:Nat)(c:iB)(vB vL:Y)(K R:Nat)(f:Nat->Y)(E:iE)
def ZA(h:iS z O w e c vB vL K R f E)(H:jg c)(p:Nat)(i:p<=c.D.nb)(k:(E.part p).opn.length<=8)(l:∀x∈(E.part p).opn,x.iz<c.D.nl)(b:(E.part p).taken.length<=1000):q1.wp A (λex a g=>ex=aj/\∃ra rc,a=⟨qn K p R c.D.nl (G L) (N ra (ky c p<|E.part p).length rc) (m<|J ⟨K,p*10,X⟩) (N ra (ky c p<|E.part p).length rc) I I I I I,[]⟩/\GF z O w (ky c p<|E.part p) (.returned<|N ra (ky c p<|E.part p).length rc) g/\iD (λ_=>True) w g) ⟨qn K p R c.D.nl (G L) I I I I I I I I,[]⟩ w:=by simp only[q1,ti,bh,W,iA,iy,qn];go_wp2_with fail;refine(Ut z O w e c vB vL K R f E h H p i k l b).mono ?_;rintro r w1⟨d,j⟩;obtain⟨ra,rc,o,rfl,n⟩:=id d;go_wp2_with fail;exact⟨ra,rc,⟨rfl,rfl⟩,d,iD.jF j⟩
end
def AN{T:Array Y}{n:Nat}(h:T.size=n):T=((aF n).map λk=>T.getD k I).toArray:=by
 apply Array.ext;.simp[h]
 .intro i a b;simp[Array.getD,a]
def Td{T:Array Y}(h:T.size=51):∃g:Nat->Y,T=#[g 0,g 1,g 2,g 3,g 4,g 5,g 6,g 7,g 8,g 9,g 10,g 11,g 12,g 13,g 14,g 15,g 16,g 17,g 18,g 19,g 20,g 21,g 22,g 23,g 24,g 25,g 26,g 27,g 28,g 29,g 30,g 31,g 32,g 33,g 34,g 35,g 36,g 37,g 38,g 39,g 40,g 41,g 42,g 43,g 44,g 45,g 46,g 47,g 48,g 49,g 50]/\∀k,T.getD k I=g k:=⟨λk=>T.getD k I,(AN h).trans rfl,λ_=>rfl⟩
def aek(a:Act)(hd:a.defers=[])(hs:a.tmps.size=51)(ra:Option aA)(n rc:Nat)(b:a.tmps.getD 5 I=N ra n rc)(w:Z):qE.wp A (λex a h=>ex=aY/\a.tmps.getD 4 I=G (decide<|0<n)/\h=w) a w:=by
 obtain⟨T,j⟩:=a;simp only at hd hs b;subst hd;obtain⟨g,rfl,d⟩:=Td hs;have e5:g 5=N ra n rc:=by rw[<-d 5];exact b
 rw[e5];have i:decide ((0:Int)<(n:Int))=decide (0<n):=by simp
 clear hs b d e5;simp only[qE,ti,bh,W,iA,iy];go_wp2
def rl:Array Y:=#[aH,ax (ay 197) #[] #[],ax (ay 198) #[] #[],ax (ay 199) #[] #[],ax (ay 201) #[] #[],ax (ay 203) #[] #[],ax (ay 205) #[] #[],ax (ay 206) #[] #[],ax (ay 207) #[] #[],ax (ay 208) #[] #[],ax (ay 209) #[] #[]]
def adp(k:Nat)(a:1<=k)(b:k<=10):rl[k]?=J (ax (ay<|zp k) #[] #[]):=by
 have:k=1\/k=2\/k=3\/k=4\/k=5\/k=6\/k=7\/k=8\/k=9\/k=10:=by omega
 rcases this with rfl|rfl|rfl|rfl|rfl|rfl|rfl|rfl|rfl|rfl<;>rfl
def acP(old:jL)(Wg R n:Nat)(a:iI):iV (uH (jb old) (λf=>f∈uP) Wg R n) a rl rl:=by unfold iV rl;have k:∀f:Nat,f∈uP->iH (uH (jb old) (λf=>f∈uP) Wg R n) a (ax (ay f) #[] #[]) (ax (ay f) #[] #[]):=λf b=>.func b .nil .nil;exact .cons (.jP trivial)<|.cons (k _<|by decide)<|.cons (k _<|by decide)<|.cons (k _<|by decide)<|.cons (k _<|by decide)<|.cons (k _<|by decide)<|.cons (k _<|by decide)<|.cons (k _<|by decide)<|.cons (k _<|by decide)<|.cons (k _<|by decide)<|.cons (k _<|by decide) .nil
def oj(old:jL)(t0:aq):Prop:=∃a,old.heap[0]?=J (ai rl t0 a)/\a.2<=rl.size
def YN(old:jL)(t0:aq)(h:oj old t0):JY (jb old) (λf=>f∈uP) rl t0:=⟨Vh old,h,acP old⟩
def F3{a:Type}(f:a->List Y)(n:Nat):∀(l:List a),(∀x∈l,(f x).length=n)->∀(k j:Nat)(x:a),l[k]?=J x->j<n->(l.flatMap f)[k*n+j]?=(f x)[j]?|[],_,k,j,x,h,_=>by simp at h|y::l,b,0,j,x,h,c=>by grind|y::l,b,k+1,j,x,h,c=>by simp only[List.getElem?_cons_succ]at h;rw[List.flatMap_cons,bn<|by grind,b y<|by simp,<-F3 f n l (λz d=>b z<|by simp[d]) k j x h c];grind
def TB(l:List nm):(ov l).length=l.length*3:=by induction l with|nil=>rfl|cons x l a=>simp[ov,a];omega
def adl(hz:1<=v)(O:Nat->Nat){f:Nat->jc}{w:Z}{n:Nat}(T:Left (CQ f) w n p t):p=N (J ⟨w.heap.size+1,0,X⟩) n n/\iD (λ_=>True) w t/\∀i,i<n->LP v (nF O w.heap.size) t (w.heap.size+1) i (f i):=by
 obtain⟨rfl,r,R,F,d,rfl⟩:=T;have D:((oB w n r).re F d).heap.size=w.heap.size+(3+n):=by show(oB w n r).heap.size=_;simp[oB,EA];omega
 refine⟨rfl,⟨by rw[D];omega,λb _ hb=>FF hb⟩,λi hi=>?_⟩;obtain⟨P,al,⟨H,ac,B⟩,aa,y⟩:=R i hi;have q:(oB w n r).heap[w.heap.size+1]?=_:=HU;have key:∀a,Ag v (nF O w.heap.size) ((oB w n r).re F d) a->∀b,w.heap.size<=b->b<w.heap.size+(3+n)->a.heap[b]?=(oB w n r).heap[b]?:=λa h b h1 h2=>h.block b (qD hz<|AO O h1) (by omega);have l:∀a,Ag v (nF O w.heap.size) ((oB w n r).re F d) a->∀j u,j<6->(uO w.heap.size r i)[j]?=J u->a.cell? ⟨w.heap.size+1,i*6+j,X⟩=J u:=by intro a h j u Q hu;have e:=key a h (w.heap.size+1) (by omega) (by omega);rw[q]at e;(have e2:(wv w.heap.size n r)[i*6+j]?=J u:=by unfold wv;rw[F3 (uO w.heap.size r) 6 (aF n) (λx hx=>by have:=(R x<|by simpa using hx).1;simp[uO,this]) i j i (by grind) Q];exact hu);unfold aE;grind
 have S:uO w.heap.size r i=[G (f i).ab,U V<|(f i).r 0,U V<|(f i).r 1,U V<|(f i).r 2,U V<|(f i).r 3,sv ((r i).b.map λ_=>w.heap.size+3+i) (r i).m (r i).k]:=by unfold uO;rw[H];rfl
 have E:∃o,sv ((r i).b.map λ_=>w.heap.size+3+i) (r i).m (r i).k=N o (f i).ch.length (r i).k/\(o=X->(r i).b=X)/\(∀s,o=J s->s=⟨w.heap.size+3+i,0,X⟩):=by unfold sv;simp_all
 obtain⟨o,K,g,c⟩:=E;rw[K]at S;refine⟨o,(r i).k,λa h=>⟨?_,?_,?_,?_,?_,?_⟩,⟨_,_,rfl⟩,λa h=>⟨o,_,rfl,λe=>?_,λs e=>⟨λ_=>?_,λj u Q=>?_⟩⟩⟩;.exact l a h 0 _ (by omega)<|by rw[S];rfl
 .grind
 .grind
 .grind
 .grind
 .grind
 .have:=y<|g e;rw[this]at B;have hl:=congrArg List.length B;rw[TB]at hl;grind
 .have M:=c s e;subst M;refine⟨rfl,?_⟩;have:=h.size;grind
 .have M:=c s e;subst M;have e1:=key a h (w.heap.size+3+i) (by omega) (by omega);rw[Mg hi]at e1;rw[nT,aP];unfold aE;grind
structure Inv(c:iB)(s0:Cells)(E:iE):Prop where
 H:jg c
 wf:AF c
 e:mo c s0 E
 w:rQ c E
 pd:∀p,p<=c.D.nb->pend c E p<=96
def Inv.pick{c:iB}{s0:Cells}{E b:iE}(h:Inv c s0 E){k q:Nat}(a:v<=c.D.nb)(e:jI c E v k q=J b):Inv c s0 b:=⟨h.H,h.wf,h.e.pick h.H a e,h.w.pick h.H h.wf h.e a e,λr d=>ar (Uo h.H a e r d)<|h.pd r d⟩
def Inv.step{c:iB}{s0:Cells}{E:iE}(h:Inv c s0 E){p k q:Nat}(a:p<=c.D.nb):Inv c s0<|iZ c E (p,k,q):=by unfold iZ;cases e:jI c E p k q with|none=>exact h|some b=>exact h.pick a e
structure nG(z:Nat)(O:Nat->Nat)(w:Z)(e:Nat)(c:iB)(vB vL:Y)(K R:Nat)(E:iE):Prop where
 is:∃f,iS z O w e c vB vL K R f E
 lr:zh z O w vL c.D.nl
 n0:ph z O 0
 zero:Zero w
 pos:0<w.heap.size
def nB(z:Nat)(O:Nat->Nat)(w:Z)(e:Nat)(c:iB)(f g:Y)(K R:Nat)(h:iE)(d:Z):Prop:=∃a,nG z a d e c f g K R h/\Ag z O w d/\∀b,b<w.heap.size->a b=O b
def nG.goes{O:Nat->Nat}{w:Z}{e:Nat}{c:iB}{K R:Nat}{E d:iE}(h:nG v O w e c n p K R E)(g:jW v O w e c n p K R d t):nB v O w e c n p K R d t:=by obtain⟨f,j,i,a,b⟩:=g;exact⟨f,⟨⟨j,i⟩,h.lr.move a b,by have:=h.n0;unfold ph Own at*;rw[b 0 h.pos];exact this,h.zero.move h.n0 a h.pos,au h.pos a.size⟩,a,b⟩
def nB.re{O:Nat->Nat}{w:Z}{e:Nat}{c:iB}{K R:Nat}{E:iE}(h:nB v O w e c n p K R E t)(b:Nat->aX->Nat)(d:Nat):nB v O w e c n p K R E<|t.re b d:=by obtain⟨i,a,g,k⟩:=h;obtain⟨f,j⟩:=a.is;exact⟨i,⟨⟨f,j.re b d⟩,a.lr.move ⟨aK _,λ_ _ _=>rfl⟩ λ_ _=>rfl,a.n0,a.zero,a.pos⟩,⟨g.size,g.block⟩,k⟩
def nB.step{O g:Nat->Nat}{w w1:Z}{e:Nat}{c:iB}{K R:Nat}{E:iE}(d:Ag v O w w1)(f:∀b,b<w.heap.size->g b=O b)(h:nB v g w1 e c n p K R E t):nB v O w e c n p K R E t:=by obtain⟨k,i,l,j⟩:=h;exact⟨k,i,d.step l f,λb a=>by rw[j b<|au a d.size];exact f b a⟩
def uK(x:Y×iG):qM:=match x.1 with|N a n c=>⟨x.2.iz,x.2.read,a,n,c,x.2.iF 0,x.2.iF 1,x.2.iF 2,x.2.iF 3⟩|_=>⟨x.2.iz,x.2.read,X,0,0,x.2.iF 0,x.2.iF 1,x.2.iF 2,x.2.iF 3⟩
noncomputable section
variable{z:Nat}{O:Nat->Nat}{w:Z}{e:Nat}{c:iB}{vB vL:Y}{K R:Nat}{E:iE}{s0:Cells}{t0:aq}
def aaO(old:jL)(hE:nG z O w e c vB vL K R E)(F:Inv c s0 E)(p:Nat)(B:p<=c.D.nb)(n i:Nat)(Q:i<n)(x:Y×iG)(hx:x.2∈ky c p (E.part p))(P:nk z O w x.1 x.2.kept)(ms:Nat->jc)(hm:ms i=uC c.D (E.part p) x.2)(Wg R':Nat):C4 (uH (jb old) (λf=>f∈uP) Wg R' n) n (AE<|CQ ms) i (m<|J ⟨w.heap.size,0,X⟩) (m<|J ⟨w.heap.size+4,0,X⟩) (m<|J ⟨w.heap.size+2,0,X⟩) (m<|J ⟨w.heap.size+3,0,X⟩)<|tP (ll (lD w ⟨K,p*10,X⟩) i<|uK x) rl t0:=by
 obtain⟨f,h⟩:=hE.is;obtain⟨r,av,aw⟩:=ux hx;have hP:=F.e.part p B;have b:=F.w.part p B;have s:=au (hP.low _ r) hP.mN;obtain⟨lb,lo,lc,u,a⟩:=hE.lr;have a:=a w<|iD.refl _ _;obtain⟨aL,am,o,ap,T⟩:=h.known.l;have e4:=h.known.c4;rw[u]at o;injection o with a1 a2 a3;subst a1;obtain⟨bb,off,S,aB,vs,t,hT⟩:=T (by omega);injection S with S;injection S with aa al;subst aa al;have rowOf:∀j,j<c.D.nl*4->xJ w (vs j):=λj hj=>by grind
 obtain⟨ta,tc,h9,hQ⟩:=h.c9 B;obtain⟨⟨ka,kc,M⟩,ac⟩:=id P;have g:uK x=⟨x.2.iz,x.2.read,ka,x.2.kept.length,kc,x.2.iF 0,x.2.iF 1,x.2.iF 2,x.2.iF 3⟩:=by unfold uK;rw[M]
 have v:=ac w<|iD.refl _ _;rw[M]at v;have ad:=Uy (i:=i) (ent:=uK x) (t0:=t0) hE.zero rfl (h.c1 B) h9 (by rw[<-u];exact e4) (by rw[g]) (t (x.2.iz*4)<|by omega) (by grind) (by grind) (by grind) (hT x.2.iz s) (rowOf _<|by omega) (rowOf _<|by omega) (rowOf _<|by omega) (rowOf _<|by omega) (by rw[g];exact v) hQ.KP adp;intro τ d;refine Zf _ rfl n i Q ms _ _ _ _ _ _ _ _ _ _ _ _ _ _ _ _ _ (c.D.ts x.2.iz) (Ij F.H F.wf s) x.2.kept (E.part p).taken _ (ad.re τ d) s ?_ ?_ ?_ ?_ ?_;.intro y k;rcases List.mem_append.1 k with k|k;(.exact(b.kw _ r).2 y k);.unfold lf at k;obtain⟨q,hq,k⟩:=List.mem_flatMap.1 k;exact(b.kt q (List.mem_filter.1 hq).1).2 y k
 .exact ar (Hu<|F.pd p B)<|by omega
 .intro q hq;exact(b.kt q hq).1
 .exact(b.kw _ r).1
 .rw[hm];rfl
end
end
noncomputable section
open Go.RowKit Go.Maps
def mU.zQ{S:Nat->Prop}{w:Z}{k n:Nat}{f:Nat->Int}(h:mU S w p k n f){R:Nat}{t e:aq}(j:mI v w p t)(g:mX w R e)(i:t≠e):mU (λx=>S x/\x≠R) w p k n f:=by obtain⟨a,cap,rfl,q,o⟩:=h;refine⟨a,cap,rfl,q,λl=>?_⟩;obtain⟨b,off,rfl,hs,d,c⟩:=o l;exact⟨b,off,rfl,⟨hs,(j _ _ _ rfl).2.ne g i⟩,d,c⟩
def qs.zQ{S:Nat->Prop}{w:Z}{n:Nat}{ts:Nat->iP}(h:qs S w p n ts){R:Nat}(E:ss v w p n)(f:mX w R 75):qs (λx=>S x/\x≠R) w p n ts:=by
 obtain⟨H,l,t,_,t1,t2,t3⟩:=E;obtain⟨a,cap,rfl,z,u⟩:=h;refine⟨a,cap,rfl,z,λr=>?_⟩;obtain⟨b,off,rfl,hs,g,o,d,k⟩:=u r;injection t with e _ _;injection e with e;injection e with s q;subst s q;have c:∀j,j<n*4->o j=l j:=λj F=>by grind
 refine⟨b,0,rfl,⟨hs,t1.ne f<|by decide⟩,g,o,d,λi hi=>?_⟩;obtain⟨q1,q2,D,y⟩:=t3 i hi;obtain⟨r1,r2,r3,r4⟩:=k i hi;rw[c (i*4)<|by omega]at r1⊢;rw[c (i*4+1)<|by omega]at r2⊢;rw[c (i*4+2)<|by omega]at r3⊢;rw[c (i*4+3)<|by omega]at r4⊢;exact⟨r1.zQ q1 f<|by decide,r2.zQ q2 f<|by decide,r3.zQ D f<|by decide,r4.zQ y f<|by decide⟩
def ri(z:Nat)(O:Nat->Nat)(B nb K R:Nat)(M:Nat->Nat)(b:Nat):Nat:=if b<B then O b else if b=K then z+40 else if b=R then z+41 else if b=M 0 then z else if 1<=nb/\b=M 1 then z+10 else if 2<=nb/\b=M 2 then z+20 else if 3<=nb/\b=M 3 then z+30 else 0
def IF(z:Nat)(O:Nat->Nat){nb K R:Nat}{M:Nat->Nat}{b:Nat}(h:b<v):ri z O v nb K R M b=O b:=if_pos h
noncomputable section
variable{B:Nat}{w:Z}{e:Nat}{D:iT}{a b c:Int}{vB vL:Y}{K R:Nat}{M:Nat->Nat}{ns:Nat}{fs:Nat->Int}
def sw.kg(h:sw B w e D a b c vB vL K R M ns fs)(i:D.nb<=3)(z:Nat)(O:Nat->Nat):ri z O B D.nb K R M K=z+40/\ri z O B D.nb K R M R=z+41/\(∀p,p<=D.nb->ri z O B D.nb K R M (M p)=z+p*10)/\(∀x,B<=x->x<=e->x≠R->ri z O B D.nb K R M x=0):=by
 have l:=h.lo;have o:=h.Io;have q:=h.GW;have n:=h.Gt;have f:=λp d=>(h.ml p d).1;refine⟨?_,?_,λp d=>?_,λx k g j=>?_⟩;.unfold ri;grind
 .unfold ri;grind
 .have hk:=f p d;unfold ri;rw[if_neg<|by omega,if_neg<|by omega,if_neg<|by omega];(have:p=0\/p=1\/p=2\/p=3:=by omega);rcases this with rfl|rfl|rfl|rfl;(.simp);(.have i1:=h.inc 0 1 (by omega) d;grind);(.have i1:=h.inc 0 2 (by omega) d;have i2:=h.inc 1 2 (by omega) d;grind);.have i1:=h.inc 0 3 (by omega) d;have i2:=h.inc 1 3 (by omega) d;have i3:=h.inc 2 3 (by omega) d;grind
 .have r:=f 0 (by omega);have k1:=λh=>f 1 h;have k2:=λh=>f 2 h;have k3:=λh=>f 3 h;unfold ri;grind
def R5(j:Nat):xc j=AQ wM (j%6):=by unfold xc AQ wM;grind
def sw.nY{W C Kk:Nat}(h:sw B w e D (W:Nat) (C:Nat) (Kk:Nat) vB vL K R M ns fs)(E:D.nb<=3)(F:ns<=100){z:Nat}(hz:1<=z){O:Nat->Nat}(Q:ph z O 0)(hZ:Zero w)(hB:0<B):nG z (ri z O B D.nb K R M) w e ⟨D,W,C,Kk⟩ vB vL K R<|mA D ns fs:=by
 obtain⟨oK,oR,oM,o0⟩:=h.kg E z O;have h1:=h.lo;have h2:=h.Io;have h3:=h.GW;have h4:=h.Gt;have P:∀x,B<=x->x<=e->x≠R->Fz z (ri z O B D.nb K R M) x:=λx a1 a2 a3=>⟨qD hz<|o0 x a1 a2 a3,o0 x a1 a2 a3⟩;have T:=h.vb.zQ h.tb h.res.ty (by decide);have ac:=h.vl.zQ h.la h.res.ty;have aa:=P e h1 (aK _) (by omega);have hT:∀b t,b>=B->mX w b t->t≠75->t≠131->t=91\/t=3\/t=159\/t=161->Fz z (ri z O B D.nb K R M) b:=by intro b t hb l n1 n2 _;suffices h0:ri z O B D.nb K R M b=0 from⟨qD hz h0,h0⟩;have kR:=l.ne h.res.ty n1;have kK:=l.ne h.part.ty n2;(have o:∀p,p<=D.nb->b≠M p:=by rintro p n rfl;obtain⟨x,fr,g⟩:=l;obtain⟨_,⟨es,H,h2,_⟩,_⟩:=(h.ml p n).2.2;grind);have k0:=o 0 (by omega);have k1:=λh=>o 1 h;have k2:=λh=>o 2 h;have k3:=λh=>o 3 h;unfold ri;grind
 refine⟨⟨oz D e M<|D.nb+1,λw' d=>?_,oK,oR,h.part,λp s n hs=>?_,h.res.congr λj _=>R5 j⟩,?_,?_,hZ,au hB<|ar h1<|Nat.le_of_lt h.row.lt⟩;. (have iW:∀j v,w.cell? ⟨e,j,X⟩=J v->w'.cell? ⟨e,j,X⟩=J v:=λj v y=>by rw[d.cell aa h.row.lt];exact y);refine⟨⟨au h.row.lt d.size,iW _ _<|h.row.cell<|by simp,iW _ _<|h.row.cell<|by simp,(T.iR<|d.mono λx g=>P x g.1.1 (by omega) g.2).rd,(ac.iR<|d.mono λx g=>P x g.1.1 (by omega) g.2).rd⟩,iW _ _<|h.row.cell<|by simp,iW _ _<|h.row.cell<|by simp,iW _ _<|h.row.cell<|by simp,iW _ _<|h.row.cell<|by simp,iW _ _<|h.row.cell<|by simp⟩
 .show kL _ _ _ _ _ _ (oz D e M (D.nb+1)<|p*10+s) _;rw[F8 D e M (Nat.lt_succ_of_le n) hs];obtain⟨t1,t2,t3⟩:=h.ml p n;unfold kL yk;by_cases e0:s=0;(.rw[if_pos e0,if_pos e0];obtain⟨Dm,d1,d2⟩:=t3;exact⟨M p,rfl,oM p n,t2,Dm,d1.mono F,d2⟩);rw[if_neg e0,if_neg e0];by_cases e1:s=1;(.grind);rw[if_neg e1,if_neg e1];by_cases e2:s=2;(.grind);rw[if_neg e2,if_neg e2];by_cases e3:s=3;(.rw[if_pos e3,if_pos e3];rfl);rw[if_neg e3,if_neg e3];split;(.exact j4.nil _ _ _ _);split;(.exact lY.nil _ _ _ _);.exact lY.nil _ _ _ _
 .obtain⟨gL,vs,y,l0,l1,l2,l3⟩:=h.la;refine⟨gL,0,D.nl,y,λw' d j hj=>⟨vs j,?_,?_⟩⟩;(.rw[aP,d.cell (hT gL 91 l0 l1 (by decide) (by decide)<|aQ rfl) l1.lt];exact l2 j hj);.intro k q u f;(have:∃t,(t=3\/t=159\/t=161)/\B<=k.block/\mX w k.block t:=by have am:j<D.nl*4:=hj;(have al:j=j/4*4+j%4:=by omega);have hm:j%4<4:=Nat.mod_lt _ (by omega);obtain⟨q1,q2,q3,q4⟩:=l3 (j/4) (show j/4<D.nl by omega);(have:j%4=0\/j%4=1\/j%4=2\/j%4=3:=by omega);rw[al]at f;rcases this with r|r|r|r<;>rw[r]at f;(.exact⟨3,aQ rfl,q1 k q u f⟩);(.exact⟨3,aQ rfl,q2 k q u f⟩);(.exact⟨159,az<|aQ rfl,q3 k q u f⟩);.exact⟨161,az<|az rfl,q4 k q u f⟩);obtain⟨t,l,hb,i⟩:=this;have S:=hT k.block t hb i (by grind) (by grind)<|az l;obtain⟨x,fr,g⟩:=i.block<|d.block _ S i.lt;exact⟨x,t,fr,g⟩
 .unfold ph Own at*;rw[IF z O hB];exact Q
end
def Kf(nb:Nat)(fb fs:Nat->Int)(p k:Nat):∀n,(∀j,j<n->ji (fs<|2*j+1))->qa nb fb fs n p k=ah->ji (qg nb fb fs n p k)|0,_,h=>by cases h|n+1,a,h=>by unfold qa at h;unfold qg;split;(.exact a n<|by omega);.rename_i b;rw[if_neg b]at h;exact Kf nb fb fs p k n (λj c=>a j<|by omega) h
def rQ.start(c:iB)(a:Nat)(fs:Nat->Int)(d:∀j,j<a->ji (fs<|2*j+1)):rQ c<|mA c.D a fs:=by refine⟨λp g=>⟨λk hk=>Kf _ _ _ _ _ a d hk,λe f=>(by cases f),λq x b=>(by cases b),λx b=>(by cases b)⟩,λi j h=>?_⟩;show ji 0;exact WalkArith.wf_i64<|by omega
def Inv.start{c:iB}(H:jg c)(b:AF c)(a:Nat)(fs:Nat->Int)(hk:∀j,j<a->0<=fs (2*j)/\fs (2*j)<=99)(d:∀j,j<a->ji (fs<|2*j+1)):Inv c (ly fs a,lS fs a)<|mA c.D a fs:=⟨H,b,Sp H a fs hk,rQ.start c a fs d,λp _=>S6 c H a fs p⟩
def oE(l:List Int)(j:Nat):Int:=l.getD j 0
def zj(i:Nat):iP:=if i=0 then⟨1,oE [10],1,oE [60],0,oE [],4,oE [2,0,10,0,2,1,60,0,7,2,0,1,3,60,2,0]⟩else⟨1,oE [99],1,oE [60],0,oE [],2,oE [2,0,60,0,3,60,0,0]⟩
def n8:iB:=⟨⟨1,oE [50],2,zj⟩,2,1,1⟩
def uy:Nat->Int:=oE [10,5,60,7]
def xo:List<|Nat×Nat×Nat:=[(1,1,0),(1,1,0),(1,2,0),(1,3,0),(0,1,0),(0,2,0),(0,3,1),(0,4,1),(0,5,0),(1,4,0),(1,5,0),(1,2,0),(1,5,0)]
def MR:lh 1 (oE [50]) 2 1 1=ah:=by kernel_rfl
def JZ:logAt 2 zj=X:=by kernel_rfl
def ZR:nZ 2 uy=X:=by kernel_rfl
def RM:Good n8.D:=Og (a:=2) (b:=1) (c:=1) MR JZ
def abf:jg n8:=⟨RM,by decide,by decide,by decide⟩
def aeg:AF n8:=by
 intro i hi j b;have a:i=0\/i=1:=by have:i<2:=hi;omega
 rcases a with rfl|rfl;. (have h:((aF 16).all λj=>(Lit.int V<|(n8.D.ts 0).c j).wf)=ah:=by kernel_rfl);exact aZ.1 h j<|by have:j<4*4:=b;simp;omega
 . (have h:((aF 8).all λj=>(Lit.int V<|(n8.D.ts 1).c j).wf)=ah:=by kernel_rfl);exact aZ.1 h j<|by have:j<2*4:=b;simp;omega
def qj(k:Nat):iE:=jm n8 (xo.take k)<|mA n8.D 2 uy
def TS:((aF 13).all λk=>match xo[k]? with|J x=>(jI n8 (qj k) x.1 x.2.1 x.2.2).isSome|X=>L)=ah:=by kernel_rfl
def M6{k:Nat}{x:Nat×Nat×Nat}(h:xo[k]?=J x):qj (k+1)=iZ n8 (qj k) x/\(jI n8 (qj k) x.1 x.2.1 x.2.2).isSome=ah:=by
 have hk:k<13:=(bq.1 h).1;refine⟨?_,?_⟩;.unfold qj jm;rw[List.take_add_one,h];simp
 .have:=aZ.1 TS k (by simpa using hk);rw[h]at this;exact this
def acv:wV (kH n8 (qj 13) 0)=aU #[G ah,G L,U V 5,U V 7,U V 12,U V 0]:=by kernel_rfl
def acB:wV (kH n8 (qj 13) 1)=aU #[G ah,G L,U V 12,U V 0,U V 0,U V 0]:=by kernel_rfl
def agk:jC ((qj 13).part 1).hs ((qj 13).part 1).vl 100=[(60,12)]:=by kernel_rfl
def Yv:Inv n8 (ly uy 2,lS uy 2)<|qj 0:=Inv.start abf aeg 2 uy (λj a=>by(have:j=0\/j=1:=by omega);rcases this with rfl|rfl<;>decide) λj a=>by(have:j=0\/j=1:=by omega);rcases this with rfl|rfl<;>rfl
def IK:∀k,k<=13->Inv n8 (ly uy 2,lS uy 2) (qj k)|0,_=>Yv|k+1,hk=>by have b:xo[k]?=J (xo[k]'hk):=bu hk;(have a:((aF 13).all λk=>match xo[k]? with|J x=>decide (x.1<=1)|X=>L)=ah:=by kernel_rfl);have:=aZ.1 a k (by simp;omega);rw[b]at this;rw[(M6 b).1];exact(IK k<|by omega).step<|of_decide_eq_true this
end
end Go.Proofs.YtldeiiffabfmeaaGreatDoor
namespace Go.Rel
noncomputable section
open Go.RowKit
noncomputable section
variable{ok:iO}{P:Program}{S:List bj->Z->Prop}{b:bj}{a:Act}{ops:Array ao}{i:Nat}{rest:List Nat}{k:List Item}{cs:List bj}{wh:Z}{o:ao}
def ade{a:Act}{f:FuncId}{e:Array aM}{ts:Array aq}{fn:Func}(c:o.op=.call ⟨.value<|bd f,e,ts⟩)(l:P.funcs[f]?=J fn)(n:fn.body.isNone=L)(p:(fn.name== "runtime.NumGoroutine")=L)(w:Z):(execOp a.eval o).runT P w #[]=(.ok (.enter f<|e.map a.eval) w,#[]):=by obtain⟨j,op,g,pos,d,guard⟩:=o;simp only at c;subst c;show(callFunc f<|#[]++e.map a.eval++#[]).runT P w #[]=_;unfold callFunc;rw[oA];have h:(program).runT P w #[]=(.ok P w,#[]):=rfl;rw[h];simp only[l,n,p,Bool.false_eq_true,if_false];simp
def ua{ops:Array ao}{T:Array Y}(c:o.guard=X):Region.wanted o (yielded ops T)=ah:=by unfold Region.wanted;rw[c]
def Reach.path(F:Fits ok P)(B:mM ok P){f:FuncId}{e:Array aM}{ts:Array aq}{fn:Func}{R:Y->Z->Prop}(p:ops[i]?=J o)(c:o.op=.call ⟨.value<|bd f,e,ts⟩)(n:o.guard=X)(g:∀a∈e,kh ok a)(l:P.funcs[f]?=J fn)(h:fn.body.isNone=L)(j:(fn.name== "runtime.NumGoroutine")=L)(q:lj ok P f (e.map a.eval) wh R)(hk:∀v w,R v w->Reach ok P (b.at (a.put o.dst v) (aD ops rest::k)::cs) w S):Reach ok P (b.at a (aD ops (i::rest)::k)::cs) wh S:=Reach.call F B p (az ⟨f,e,ts,c,g,fn,l,h,j⟩) (ua n) (λr d=>ade c l h j _) q hk
def Reach.Hc(F:Fits ok P)(B:mM ok P){x:aM}(j:ops[i]?=J o)(c:o.op=.move x\/o.op=.assign x)(l:o.guard=X)(p:kh ok x)(hk:Reach ok P (b.at (a.put o.dst<|a.eval x) (aD ops rest::k)::cs) wh S):Reach ok P (b.at a (aD ops (i::rest)::k)::cs) wh S:=by
 refine Reach.op F B j ?_ (ua l) (λn d=>⟨n,d,#[],?_⟩) hk;.unfold mr;grind
 .obtain⟨h,op,g,pos,f,guard⟩:=o;simp only at c;rcases c with e|e<;>subst e<;>rfl
inductive Lv(ops' ops:Array ao)(tail:List Nat)(k:List Item):List Item->List Item->Prop|inside(s:List Nat)(hs:∀i∈s,ops'[i]?=ops[i]?):Lv ops' ops tail k (aD ops' s::dead [])<|aD ops (s++tail)::k
def agv{b:bj}{k:List Item}{Q:Act->Z->Prop}{c ops:Array ao}{tail:List Nat}(B:∀u,yielded c u=yielded ops u)(E:∀a w v d,Q a w->Q a (w.re v d)):AK ok P b (Lv c ops tail k) (rW b (dead []) λe a w=>e=aj/\Q a w) λl w=>∃p,l=[b.at p<|aD ops tail::k]/\Q p w:=by
 refine⟨?_,?_,?_,?_⟩;.rintro n i rest r g h;generalize e:aD n (i::rest)::r=t at h;cases h with|inside s hs=>simp only[List.cons.injEq,Item.inRegion.injEq]at e;obtain⟨⟨rfl,rfl⟩,rfl⟩:=e;exact⟨_,rest++tail,k,rfl,(hs i<|by simp).symm,λ_ _ _=>by rw[B],.inside rest λj x=>hs j (by simp[x])⟩
 .intro t g h z a;cases h with|inside s hs=>cases s with|cons i rest=>exact absurd ⟨_,_,_,_,rfl⟩ z|nil=>refine az<|az<|az λw h=>⟨a,rfl,?_⟩;cases h with|stop h=>obtain⟨e,p,f,y,⟨rfl,D⟩,q⟩:=h;cases y;obtain⟨_,e2⟩:=wj q;cases e2|step _ _ hs=>have:=hs w.tape w.drawn [b.at a<|dead []] (w.re w.tape w.drawn) #[] rfl;rw[Hg]at this;exact(Js this).2
 .rintro l w⟨e,p,f,rfl,⟨rfl,_⟩,q⟩;refine⟨f,rfl,?_⟩;rintro a t g h rfl;obtain⟨_,e2⟩:=wj q;cases h<;>cases e2
 grind
def Reach.KM(F:Fits ok P)(C:oq ok P){b:bj}(H:∃fn,P.funcs[b.fn]?=J fn){l:List Nat}{tail:List Nat}{c:Array ao}{R:Act->Z->Prop}(O:∀E,yielded c E=yielded ops E)(hs:∀i∈l,c[i]?=ops[i]?)(x:∀o∈c,mr ok P o)(D:∀a w q d,R a w->R a (w.re q d))(h:∀q d,wpOps P c (λe a w=>e=aj/\R a w) l a<|wh.re q d)(hk:∀g v,R g v->Reach ok P (b.at g (aD ops tail::k)::cs) v S):Reach ok P (b.at a (aD ops (l++tail)::k)::cs) wh S:=by
 refine Reach.given λT p=>?_;have j:sQ ok P [b.at a<|aD c l::dead []] wh:=Di (bJ.2 ⟨trivial,λi hi=>(zr (ok:=ok) (P:=P) [] i hi).flat⟩) p;have t:Ib P (rW b (dead []) λe a w=>e=aj/\R a w) [b.at a<|aD c l::dead []] wh:=by intro q d;obtain⟨e,g,v,⟨rfl,Q⟩,r⟩:=wp_ops _ a _ (h q d) b (dead []) [iF];obtain⟨n,K⟩:=r;exact⟨n,b.at g<|dead [],v,K,aj,g,_,rfl,⟨rfl,Q⟩,rfl⟩
 have s:Safe ok P (rW b (dead []) λe a w=>e=aj/\R a w) [b.at a<|aD c l::dead []] wh:=by refine L1 F C ?_ ?_ (sQ.self (by simpa using j) ?_<|by simp) t;(.rintro l w q d _⟨e,g,f,s,u,y⟩;exact⟨e,g,f,s,⟨u.1,D _ _ _ _ u.2⟩,y⟩);(.rintro fr w⟨e,g,f,s,⟨rfl,u⟩,y⟩;cases s;cases y;exact aQ rfl);.intro f B;simp only[List.mem_singleton]at B;subst B;exact⟨H,bJ.2 ⟨x,zr []⟩,aQ rfl⟩
 have u:=CU (agv (k:=k) (tail:=tail) O D) s [] a _ _ rfl (.inside l hs) (by simp);refine(Reach.EG F C.jS cs (by simp) u).bind ?_;rintro l' z⟨l1,rfl,g,rfl,M⟩;exact hk g z M
def Ii{Q:aG->Act->Z->Prop}(l:List ao):∀k,(∀j,j<l.length->l[j]?=ops[k+j]?)->wpOps P ops Q (bl k l.length)=wpList P ops Q l:=by induction l with|nil=>intro k _;funext a w;simp[wpOps,wpList]|cons o l d=>intro k h;(have e:ops[k]?=J o:=by simpa using(h 0<|by simp).symm);have c:=d (k+1) (λj f=>by have:=h (j+1) (by simpa using f);grind);funext a w;simp only[List.length_cons,bK,wpOps,e,wpList,c]
def QB{K j:Act->Z->Prop}{Q g:aG->Act->Z->Prop}(h:∀a w,K a w->j a w)(f:∀e a w,Q e a w->g e a w){w:Z}(c:o.wp P a w K Q):o.wp P a w j g:=by unfold Oper.wp at*;generalize(execOp a.eval o).run P w=r at*;cases r with|ok n p=>(cases n<;>simp only[Oper.upon]at c⊢<;>first|exact h _ _ c|exact f _ _ _ c|exact Calls.mono c (λe l d=>by cases e<;>first|exact h _ _ d|exact f _ _ _ d|(obtain⟨q,s,d⟩:=d;exact⟨q,s,f _ _ _ d⟩))|exact Rows.mono c λ_ _ d=>h _ _ d|exact c)|halt x p=>cases x<;>simp only[Oper.upon]at c⊢<;>first|exact f _ _ _ c|exact c
def qw{Q f:aG->Act->Z->Prop}(c:∀e a w,Q e a w->f e a w):∀(l:List ao){a:Act}{w:Z},wpList P ops Q l a w->wpList P ops f l a w|[],_,_,h=>c _ _ _ h|o::l,a,w,h=>by unfold wpList at h⊢;split;(.rename_i d;rw[if_pos d]at h;rcases h with h|⟨g,j,p,n⟩;(.exact aQ<|QB (λa w=>qw c l) c h);.exact az ⟨g,j,p,c _ _ _ n⟩);.rename_i d;rw[if_neg d]at h;exact qw c l h
def oC(o:ao):ao:={o with op:=.move<|.const<|G ah,guard:=X}
def Bm(F:Fits ok P)(C:oq ok P){M:List Nat}{Q:aG->Act->Z->Prop}{id:Nat}{pre c:List ao}{f:FuncId}{z:Array aM}{ts:Array aq}{fn:Func}(hc:ops=(pre++o::c).toArray)(y:o.op=.call ⟨.value<|bd f,z,ts⟩)(hg:o.guard=X)(H:∀a∈z,kh ok a)(hf:P.funcs[f]?=J fn)(hb:fn.body.isNone=L)(hn:(fn.name== "runtime.NumGoroutine")=L)(s:∀q∈(pre++oC o::c),mr ok P q){R:Act->Z->Prop}(hR:∀a w g d,R a w->R a (w.re g d))(hQ:∀a w g d,Q aj a w->Q aj a (w.re g d))(r:∀g d,wpList P (pre++oC o::c).toArray (λe a w=>e=aj/\R a w) pre a<|wh.re g d)(p:∀t x,R t x->∃R2:Y->Z->Prop,lj ok P f (z.map t.eval) x R2/\∀v h,R2 v h->∀g d,wpList P (pre++oC o::c).toArray (λe a w=>e=aj/\Q aj a w) c (t.put o.dst v) (h.re g d)):jH ok P M (aV id ops L) Q a wh:=by
 have B:=C.jS;refine Zq F B λb k cs u hk=>?_;have hy:∀O,yielded (pre++oC o::c).toArray O=yielded ops O:=by intro O;funext j;subst hc;unfold yielded;by_cases h1:j<pre.length;(.grind);.rw[bA,bA,bn<|by omega,bn<|by omega];cases j-pre.length with|zero=>rfl|succ m=>rfl
 have E:ops.size=pre.length+(1+c.length):=by grind
 have hr:aF ops.size=bl 0 pre.length++(pre.length::bl (pre.length+1) c.length):=by rw[E,List.range_eq_range',<-List.range'_append_1,aP,Nat.add_comm 1,bK]
 have ac:∀j,j<pre.length->ops[j]?=pre[j]?:=λj D=>by grind
 have aa:∀j,j<pre.length->(pre++oC o::c).toArray[j]?=pre[j]?:=λj D=>by grind
 have K:∀j,ops[pre.length+1+j]?=c[j]?:=λj=>by rw[hc,bA,bn<|by omega,show pre.length+1+j-pre.length=j+1 from by omega];rfl
 have l:∀j,(pre++oC o::c).toArray[pre.length+1+j]?=c[j]?:=λj=>by grind
 rw[hr];refine Reach.KM F C u hy (λi hi=>?_) (λq n=>s q<|by simpa using n) hR (λg d=>?_) λt x T=>?_;.grind
 .rw[Ii pre 0 λj D=>by grind];exact r g d
 .obtain⟨R2,h1,h2⟩:=p t x T;refine Reach.path F B (by grind) y hg H hf hb hn h1 λv h hv=>?_;(have e:bl (pre.length+1) c.length=bl (pre.length+1) c.length++[]:=by simp);rw[e];refine Reach.KM F C u hy (λi hi=>?_) (λq n=>s q<|by simpa using n) hQ (λg d=>?_) λa1 w1 hq=>Reach.last F B<|.stop ⟨aj,a1,_,rfl,hq,rfl⟩;(.simp only[List.mem_range'_1]at hi;obtain⟨j,rfl⟩:∃j,i=pre.length+1+j:=⟨i-(pre.length+1),by omega⟩;rw[K,l]);.rw[Ii c (pre.length+1) λj D=>by rw[l]];exact h2 v h hv g d
def aaq(F:Fits ok P)(C:oq ok P){g:List Nat}{l:aG->Act->Z->Prop}{x y:ae}(p:oN ok P x)(h:∀c d,x.wp P (λe a j=>e=aj/\a=Q/\∃c d,j=wh.re c d) a<|wh.re c d)(hk:jH ok P g y l Q wh):jH ok P g (ak x y) l a wh:=by refine kz F C.jS<|wP (uS F C p (λe a w c d f=>⟨f.1,f.2.1,by obtain⟨n,q,rfl⟩:=f.2.2;exact⟨c,d,rfl⟩⟩) (λe a w f=>by rw[f.1];trivial) h) ?_;rintro e a j⟨rfl,rfl,c,d,rfl⟩;exact oP hk _ _
end
end
end Go.Rel
namespace Go.Proofs.YtldeiiffabfmeaaGreatDoor
noncomputable section
open Go.RowKit Go.Maps Go.Rel
def cq(old:jL):oN (jb old) A q0/\oN (jb old) A q1/\oN (jb old) A qB/\oN (jb old) A qE:=by
 have K:=Es old;have h:(Go.Rel.mD A (mZ rh) q0&&Go.Rel.mD A (mZ rh) q1&&Go.Rel.mD A (mZ rh) qB&&Go.Rel.mD A (mZ rh) qE)=ah:=by kernel_rfl
 simp only[bM]at h;exact⟨pO K h.1.1.1,pO K h.1.1.2,pO K h.1.2,pO K h.2⟩
def opsL:ae->List ao|aV _ o _=>o.toList|_=>[]
def opAt(l:List ao)(i:Nat):ao:=l.getD i ⟨X,.panic<|.const aH,0,"",#[],X⟩
def rO{old:jL}{l:List ao}(h:(l.all λo=>AJ A (mZ rh) o)=ah):∀o∈l,mr (jb old) A o:=λo a=>Ip (Es old)<|aZ.1 h o a
def afT:q2=aV 2 ((opsL q2).take 2++opAt (opsL q2) 2::(opsL q2).drop 3).toArray L:=by kernel_rfl
def U9:(opAt (opsL q2) 2).op=.call ⟨.value<|bd 109,#[an 11,an 12],#[167,123]⟩:=by kernel_rfl
def adR(old:jL):∀o∈(opsL q2).take 2++oC (opAt (opsL q2) 2)::(opsL q2).drop 3,mr (jb old) A o:=rO<|by kernel_rfl
def acR(K p R nl:Nat)(v f e a w:Y)(b c d:Y):(#[an 11,an 12]:Array aM).map (⟨qn K p R nl v f e a (m<|J ⟨K,p*10,X⟩) w b c d,[]⟩:Act).eval=#[m<|J ⟨K,p*10,X⟩,w]:=by kernel_rfl
def St:(opAt (opsL q2) 2).dst=J 13:=by kernel_rfl
def pg{ok:Go.Rel.iO}{b:Array aM}(h:(b.all λx=>match x with|an _=>ah|_=>L)=ah):∀a∈b,kh ok a:=by intro a c;rw[Array.all_eq_true_iff_forall_mem]at h;have:=h a c;cases a<;>first|trivial|(simp at this)
def aaI(ops:Array ao)(K p R nl:Nat)(x c d b:Y)(w:Z):wpList A ops (λe a f=>e=aj/\a=⟨qn K p R nl x c d b (m<|J ⟨K,p*10,X⟩) c I I I,[]⟩/\f=w) ((opsL q2).take 2) ⟨qn K p R nl x c d b I I I I I,[]⟩ w:=by simp only[opsL,q2,ti,bh,W,iA,iy,qn,bN];go_wp2
def agl(ops:Array ao)(K p R nl:Nat)(x f h c d b:Y)(g:Option aA)(n cap:Nat)(w:Z):wpList A ops (λe a i=>e=aj/\a=⟨qn K p R nl x f h c d b (N g n cap) (U V n)<|U V 0,[]⟩/\i=w) ((opsL q2).drop 3) ⟨qn K p R nl x f h c d b (N g n cap) I I,[]⟩ w:=by simp only[opsL,q2,ti,bh,W,iA,iy,qn,bO];go_wp2
def aeQ(O:Nat->Nat){n:Nat}(h:v<=n):nF (nF O v) n=nF O v:=by
 funext b;unfold nF;split;.rfl
 .rw[if_neg<|by omega]
def LK{D:iT}{p:Nat}{a:List<|Nat×jc}(c:∀x∈a,x.2.ch.length<=16)(E:iE):∀k,k<=a.length->((oY D p a k E).part p).opn.length<=(E.part p).opn.length/\((oY D p a k E).part p).taken.length<=(E.part p).taken.length/\((oY D p a k E).part p).n<=(E.part p).n+16*k|0,_=>by simp[oY]|k+1,hk=>by obtain⟨d,e,g⟩:=LK c E k (by omega);obtain⟨x,b⟩:∃x,a[k]?=J x:=⟨_,bu<|by omega⟩;have f:=c _<|aJ b;rw[K5 D p b E];simp only[kS,upd_same,pF];refine⟨ar (bP _ _) d,ar (bP _ _) e,by omega⟩
def Uh:Tryz.f67.body=J ti:=rfl
def Wd(K p R nl:Nat):(#[m<|J ⟨K,p*10,X⟩,N (J ⟨R,0,X⟩) nl nl]++bw (Tryz.f67.ntmps-(#[m<|J ⟨K,p*10,X⟩,N (J ⟨R,0,X⟩) nl nl]:Array Y).size) I)=qn K p R nl I I I I I I I I I:=by kernel_rfl
def Y4{w:Z}{l:List iG}{a:Option aA}{cap g:Nat}{b:List<|Y×iG}(d:b.map Prod.snd=l)(hs:∀x∈b,∃ka kn kc,x.1=N ka kn kc){base:Nat}(h:w.ownsRow base 173 7 (N a l.length cap) l.length<|b.flatMap jM)(o:a=J ⟨g,0,X⟩):∀i x,b[i]?=J x->xX w g (0+i*7) (uK x):=by
 intro i x c;subst o;obtain⟨ka,kn,kc,hk⟩:=hs x<|aJ c;have n:=h.cells rfl;have at':=λj u e k=>by have:=n (i*7+j) u (by rw[F3 jM 7 b (λy _=>vI y) i j x c e];exact k);rwa[nT,aP]at this
 have f:uK x=⟨x.2.iz,x.2.read,ka,kn,kc,x.2.iF 0,x.2.iF 1,x.2.iF 2,x.2.iF 3⟩:=by unfold uK;rw[hk]
 rw[f,aP];refine⟨at' 0 _ (by omega) rfl,at' 1 _ (by omega) rfl,at' 2 _ (by omega) ?_,at' 3 _ (by omega) rfl,at' 4 _ (by omega) rfl,at' 5 _ (by omega) rfl,at' 6 _ (by omega) rfl⟩;simp[jM,hk]
noncomputable section
variable{z:Nat}{O:Nat->Nat}{w:Z}{e:Nat}{c:iB}{vB vL:Y}{K R:Nat}{E:iE}{s0:Cells}{t0:aq}
def CS(c:iB)(P:Part)(l:List iG)(i:Nat):jc:=match l[i]? with|J x=>uC c.D P x|X=>sR []
def Y8{old:jL}(h0:oj old t0)(hz:1<=z)(hE:nG z O w e c vB vL K R E)(S:Inv c s0 E)(p:Nat)(hp:p<=c.D.nb):lj (jb old) A 67 #[m<|J ⟨K,p*10,X⟩,N (J ⟨R,0,X⟩) c.D.nl c.D.nl] w λv q=>v=G (decide<|0<(ky c p<|E.part p).length)/\nB z O w e c vB vL K R ((lO c p<|E.part p).foldl (kS c.D p) E) q:=by
 have B0:=jD old;have F:=B0.fits;have aR:=B0.kg;have B:=aR.jS;obtain⟨k0,k1,kB,kE⟩:=cq old;obtain⟨f,h⟩:=hE.is;have hP:=S.e.part p hp;have bp:=ar hP.win S.H.W.2;have ht:=λx l=>au (hP.low x l) hP.mN;have bf:(E.part p).taken.length<=1000:=ar (Hu<|S.pd p hp) (by omega);refine lj.xM F B bQ Uh ?_;rw[Wd,Tm];refine kz F B<|wP (uS F aR k0 (Q:=λex a q=>ex=aj/\a=⟨qn K p R c.D.nl (G L) I I I I I I I I,[]⟩/\∃o d,q=w.re o d) (λe a q o d j=>⟨j.1,j.2.1,by obtain⟨a4,d',rfl⟩:=j.2.2;exact⟨o,d,rfl⟩⟩) (λe a q j=>by rw[j.1];trivial) λo d=>iM (aeE K p R c.D.nl<|w.re o d) λe a q j=>⟨j.1,j.2.1,o,d,j.2.2⟩) ?_;rintro ex a w1⟨rfl,rfl,o,d,rfl⟩;refine oP ?_ o d;refine kz F B<|wP (uS (ids:=[]) F aR k1 (Q:=λex a q=>ex=aj/\∃ra rc,a=⟨qn K p R c.D.nl (G L) (N ra (ky c p<|E.part p).length rc) (m<|J ⟨K,p*10,X⟩) (N ra (ky c p<|E.part p).length rc) I I I I I,[]⟩/\GF z O w (ky c p<|E.part p) (.returned<|N ra (ky c p<|E.part p).length rc) q/\iD (λ_=>True) w q) (λe a q o d j=>⟨j.1,by obtain⟨ra,rc,q1,q2,q3⟩:=j.2;exact⟨ra,rc,q1,q2,q3.size,q3.block⟩⟩) (λe a q j=>by rw[j.1];trivial) λo d=>iM (ZA z O (w.re o d) e c vB vL K R f E (h.re o d) S.H p hp bp ht bf) λe a q j=>⟨j.1,by obtain⟨ra,rc,q1,⟨a',aw,T,r1,r2,r3,r4⟩,q3⟩:=j.2;exact⟨ra,rc,q1,⟨a',aw,T,r1,r2,λx l=>(r3 x l).move ⟨aK _,λ_ _ _=>rfl⟩ λ_ _=>rfl,r4⟩,q3.size,q3.block⟩⟩) ?_;rintro ex a w1⟨rfl,ra,rc,rfl,⟨a',aw,T,r1,r2,r3,r4⟩,P⟩;injection r1 with r1;injection r1 with r1 _ bb;subst r1 bb;generalize hn:(ky c p<|E.part p).length=n at*;have bc:n<=4:=by rw[<-hn];unfold ky;exact ar (List.length_take_le _ _) S.H.K.2
 have br:T.length=n:=by rw[<-hn,<-r2];simp
 have av:Ag z O w w1:=⟨P.size,λb _ r=>P.block b trivial r⟩;have s:nG z (nF O w.heap.size) w1 e c vB vL K R E:=⟨⟨f,h.move (λb r=>P.block b trivial r) P.size λb r=>qu O r⟩,hE.lr.move av λb r=>qu O r,by have:=hE.n0;unfold ph Own at*;rw[qu O hE.pos];exact this,hE.zero.move hE.n0 av hE.pos,au hE.pos P.size⟩;have a9:=λx l=>(r3 x l).move av λb r=>qu O r;have a7:∀x∈T,∃ka kn kc,x.1=N ka kn kc:=λx l=>by obtain⟨⟨a,c,hh⟩,_⟩:=r3 x l;exact⟨a,_,c,hh⟩
 have aa:∀(i:Nat)(x:Y×iG),T[i]?=J x->x.2∈ky c p (E.part p):=λi x l=>by rw[<-r2];exact List.mem_map_of_mem<|aJ l
 have aS:∀a,ra=J a->a.spot=X:=by rintro a rfl;rcases r4.2 with⟨hv,a6⟩|⟨g,cap,be,hv,h4,_⟩;(.cases hv);.injection hv with hv;injection hv with hv;rw[hv]
 obtain⟨g,aL,bi⟩:∃g,(n≠0->ra=J ⟨g,0,X⟩)/\w.heap.size<=g:=by rcases r4.2 with⟨hv,a6⟩|⟨g,cap,be,hv,h4,_⟩;(.exact⟨w.heap.size,λh0=>absurd a6 h0,aK _⟩);.injection hv with hv;exact⟨g,λ_=>hv,h4⟩
 have a3:∀(i:Nat)(x:Y×iG),T[i]?=J x->xX w1 g (0+i*7) (uK x):=by intro i x l;have hi:=(bq.1 l).1;refine Y4 r2 a7 (by rw[hn];exact r4) (aL<|by omega) i x l
 let ap:Nat->qM:=λi=>match T[i]? with|J x=>uK x|X=>⟨0,L,X,0,0,L,L,L,L⟩;have al:∀(i:Nat)(x:Y×iG),T[i]?=J x->ap i=uK x:=λi x l=>by simp only[ap,l]
 have hW:lj (jb old) A 109 #[m<|J ⟨K,p*10,X⟩,N ra n rc] w1<|Left (CQ<|CS c (E.part p)<|ky c p<|E.part p) w1 n:=by refine afm B0 (YN old t0 h0) (rb:=g) (ro:=0) (ents:=ap) (by omega) aL aS (λi hi=>?_) λWg R' i hi=>?_;(.obtain⟨x,l⟩:∃x,T[i]?=J x:=⟨_,bu<|by omega⟩;rw[al i x l];exact a3 i x l);.obtain⟨x,l⟩:∃x,T[i]?=J x:=⟨_,bu<|by omega⟩;rw[al i x l];refine aaO old s S p hp n i hi x (aa i x l) (a9 x<|aJ l) _ ?_ Wg R';(have:(ky c p<|E.part p)[i]?=J x.2:=by rw[<-r2,bB,l];rfl);unfold CS;rw[this]
 show jH (jb old) A [] (ak (ak q2 qB) qE) _ _ _;refine kz F B ?_;rw[afT];refine kz F B ?_;refine Bm F aR rfl U9 (by kernel_rfl) (pg<|by kernel_rfl) Tryz.func109 (by kernel_rfl) (by kernel_rfl) (adR old) (R:=λa q=>a=⟨qn K p R c.D.nl (G L) (N ra n rc) (m<|J ⟨K,p*10,X⟩) (N ra n rc) (m<|J ⟨K,p*10,X⟩) (N ra n rc) I I I,[]⟩/\∃o d,q=w1.re o d) (λa w o d j=>⟨j.1,by obtain⟨a4,d',rfl⟩:=j.2;exact⟨o,d,rfl⟩⟩) (λa w o d j=>oP j o d) (λo d=>qw (λe a q j=>⟨j.1,j.2.1,o,d,j.2.2⟩) _<|aaI _ K p R c.D.nl _ _ _ _<|w1.re o d) ?_;rintro a' q⟨rfl,o,d,rfl⟩;refine⟨Left (CQ<|CS c (E.part p)<|ky c p<|E.part p) w1 n,?_,?_⟩;.rw[acR];exactλcs=>(hW cs).re o d
 intro v w2 hL;obtain⟨rfl,M,ad⟩:=adl hz (nF O w.heap.size) hL;rw[aeQ O P.size]at ad;intro o d;have a1:((⟨qn K p R c.D.nl (G L) (N ra n rc) (m<|J ⟨K,p*10,X⟩) (N ra n rc) (m<|J ⟨K,p*10,X⟩) (N ra n rc) I I I,[]⟩:Act).put (opAt (opsL q2) 2).dst<|N (J ⟨w1.heap.size+1,0,X⟩) n n)=⟨qn K p R c.D.nl (G L) (N ra n rc) (m<|J ⟨K,p*10,X⟩) (N ra n rc) (m<|J ⟨K,p*10,X⟩) (N ra n rc) (N (J ⟨w1.heap.size+1,0,X⟩) n n) I I,[]⟩:=by rw[St];kernel_rfl
 rw[a1];refine qw ?_ _<|agl _ K p R c.D.nl _ _ _ _ _ _ _ n n<|w2.re o d;rintro ex a w3⟨rfl,rfl,rfl⟩;refine⟨rfl,oP ?_ o d⟩;have ac:Ag z (nF O w.heap.size) w1 w2:=⟨M.size,λb _ r=>M.block b trivial r⟩;obtain⟨f1,h1⟩:=s.is;have aT:nG z (nF O w.heap.size) w2 e c vB vL K R E:=⟨⟨f1,h1.move (λb r=>M.block b trivial r) M.size λb r=>rfl⟩,s.lr.move ac λb r=>rfl,s.n0,s.zero.move s.n0 ac s.pos,au s.pos M.size⟩;obtain⟨f2,h2⟩:=aT.is;have ba:(lO c p<|E.part p).length=n:=by simp[lO,hn]
 have am:∀(i:Nat)x,(lO c p<|E.part p)[i]?=J x->∃y:Y×iG,T[i]?=J y/\x=(y.2.iz,uC c.D (E.part p) y.2)/\(ky c p<|E.part p)[i]?=J y.2:=by intro i x l;unfold lO at l;rw[bB]at l;cases hy:(ky c p<|E.part p)[i]? with|none=>rw[hy]at l;cases l|some y=>rw[hy]at l;injection l with l;rw[<-r2,bB]at hy;cases a0:T[i]? with|none=>rw[a0]at hy;cases hy|some u=>rw[a0]at hy;injection hy with hy;exact⟨u,rfl,by rw[<-l,<-hy],by rw[<-hy]⟩
 have aB:∀x∈lO c p (E.part p),py (c.D.ts x.1) x.2/\x.1<c.D.nl:=by intro x l;obtain⟨i,hi⟩:=bR.1 l;obtain⟨y,t,rfl,aC⟩:=am i x hi;obtain⟨m1,m2,m3⟩:=ux<|aa i y t;exact⟨(S.w.part p hp).C7 S.H S.wf m1<|ht _ m1,ht _ m1⟩
 have a8:∀x∈lO c p (E.part p),x.2.ch.length<=16:=by intro x l;obtain⟨m1,m2⟩:=aB x l;have k1:=m1.len;have k2:=m1.nx;have k3:=(Ij S.H S.wf m2).keys.2.2.2.1;omega
 have bt:=hP.cnt;have bx:=hP.mN;have bv:=S.H.G.nl;subst ba;refine wP (uS F aR kB (Q:=λex a q=>ex=aj/\a.defers=[]/\a.tmps.size=51/\a.tmps.getD 5 I=N ra (lO c p<|E.part p).length rc/\jW z (nF O w.heap.size) w2 e c vB vL K R (oY c.D p (lO c p<|E.part p) (lO c p<|E.part p).length E) q) (λe a q o d j=>⟨j.1,j.2.1,j.2.2.1,j.2.2.2.1,j.2.2.2.2.re o d⟩) (λe a q j=>by rw[j.1];trivial) λo d=>iM (PM z (nF O w.heap.size) (w2.re o d) e c vB vL K R f2 E (h2.re o d) S.H hz p hp (lO c p<|E.part p) ra rc (w1.heap.size+1) (lO c p<|E.part p).length bc ?_ ?_ ?_ _ _ _ _ _ _ _ _) λe a q j=>⟨j.1,j.2.1,j.2.2.1,j.2.2.2.1,by obtain⟨O',f',g1,g2,g3⟩:=j.2.2.2.2;exact⟨O',f',g1,⟨g2.size,g2.block⟩,g3⟩⟩) ?_;.intro i x l;obtain⟨y,t,rfl,aC⟩:=am i x l;have hi:=(bq.1 t).1;obtain⟨m1,m2,m3⟩:=ux<|aa i y t;refine⟨ht _ m1,g,0,aL<|by omega,λq bo=>?_⟩;have a5:=(a3 i y t).1;have a2:=bC _ _ a5;rw[bo.cell (qD hz<|AO O bi)<|au a2 M.size];show w2.cell? _=_;rw[M.cell trivial a2,a5];obtain⟨ka,kn,kc,hk⟩:=a7 y<|aJ t;unfold uK;rw[hk]
 .intro i x l;obtain⟨y,t,rfl,aC⟩:=am i x l;have hi:=(bq.1 l).1;have:=ad i hi;(have e2:CS c (E.part p) (ky c p<|E.part p) i=uC c.D (E.part p) y.2:=by unfold CS;rw[aC]);rw[e2]at this;refine⟨?_,λu hu=>?_⟩;(.obtain⟨va,vc,c1,c2⟩:=this;exact⟨va,vc,λq h'=>c1 q ⟨h'.size,h'.block⟩,c2.1,λq h'=>c2.2 q ⟨h'.size,h'.block⟩⟩);.have:=(aB _<|aJ l).1.keys u hu;exact⟨this.1,this.2.1⟩
 .intro k hk;obtain⟨b1,b2,b3⟩:=LK (D:=c.D) (p:=p) a8 E k hk;refine⟨by omega,by omega,λx l=>?_⟩;have:=a8 x<|aJ l;omega
 rintro ex a w3⟨rfl,hd,hs,h5,hG⟩;refine wP (uS F aR kE (Q:=λex a q=>ex=aY/\a.tmps.getD 4 I=G (decide<|0<(lO c p<|E.part p).length)/\∃o d,q=w3.re o d) (λe a q o d j=>⟨j.1,j.2.1,by obtain⟨a4,d',rfl⟩:=j.2.2;exact⟨o,d,rfl⟩⟩) (λe a q j=>by rw[j.1];trivial) λo d=>iM (aek a hd hs ra _ rc h5<|w3.re o d) λe a q j=>⟨j.1,j.2.1,o,d,j.2.2⟩) ?_;rintro ex a w4⟨rfl,h4,o,d,rfl⟩;refine⟨az rfl,λ_=>⟨G<|decide<|0<(lO c p<|E.part p).length,?_,rfl,?_⟩⟩;.rw[Go.Rel.results_tmp (k:=4) rfl];show(pure<|a.tmps.getD 4 I:Sem Y).run A _=_;rw[h4];rfl
 . (have aO:oY c.D p (lO c p<|E.part p) (lO c p<|E.part p).length E=(lO c p<|E.part p).foldl (kS c.D p) E:=by unfold oY;rw[List.take_length]);rw[aO]at hG;refine nB.step (av.step ac λb r=>qu O r) (λb r=>qu O r)<|(aT.goes hG).re o d
end
def iL:ae->ae|bD _ c=>c|_=>aN
def iY:ae->ae|aW _ x _=>x|_=>aN
def jG:ae->ae|aW _ _ y=>y|_=>aN
def kD:ae:=Tryz.f36.body.getD aN
def aaY:Tryz.f36.body=J kD:=rfl
def aeG(d c a b:Y):(#[d,c,a,b]++bw (Tryz.f36.ntmps-(#[d,c,a,b]:Array Y).size) I)=#[d,c,a,b,I,I,I,I,I,I,I,I,I,I,I,I,I,I,I,I,I,I,I,I,I,I,I,I,I,I,I,I,I,I,I,I,I,I,I,I,I,I,I,I,I,I,I,I,I,I,I,I,I,I,I,I,I,I,I,I,I,I,I,I,I,I,I,I,I,I,I,I,I,I]:=by kernel_rfl
def p0:ae:=iA kD
def p1:ae:=iA<|iy kD
def p3:ae:=iA<|iy<|iy kD
def p4:ae:=iA<|iA<|iy<|iy<|iy kD
def pI:ae:=iL<|iy<|iA<|iy<|iy<|iy kD
def pZ:ae:=iy<|iy<|iy<|iy kD
def nu:ae:=jG<|iy pI
def pT:ae:=jG<|iy nu
def tD:ae:=jG<|iy pT
def wH:ae:=jG<|iy tD
def YO:kD=ak p0 (ak p1<|ak p3<|ak (ak p4<|bD 0 pI) pZ):=by kernel_rfl
def zH:pI=ak (iA pI) (aW (an 23) (iY<|iy pI) nu):=by kernel_rfl
def Am:nu=ak (iA nu) (aW (an 29) (iY<|iy nu) pT):=by kernel_rfl
def CV:pT=ak (iA pT) (aW (an 33) (iY<|iy pT) tD):=by kernel_rfl
def IQ:tD=ak (iA tD) (aW (an 51) (iY<|iy tD) wH):=by kernel_rfl
def WQ:wH=ak (iA wH) (aW (an 66) (iY<|iy wH) aN):=by kernel_rfl
def Cl{old:jL}{c:ae}(h:Go.Rel.mD A (mZ rh) c=ah):oN (jb old) A c:=pO (Es old) h
def nN{old:jL}{wh:Z}{a:Act}{b:List Nat}{f:aG->Act->Z->Prop}{x y:ae}(g:Go.Rel.mD A (mZ rh) x=ah)(h:∀c d,x.wp A (λe a i=>e=aj/\a=Q/\∃c d,i=wh.re c d) a<|wh.re c d)(hk:jH (jb old) A b y f Q wh):jH (jb old) A b (ak x y) f a wh:=aaq (jD old).fits (jD old).kg (Cl g) h hk
def xH(e p nb K:Nat)(k q:Int):Array Y:=#[m<|J ⟨e,0,X⟩,U V (p:Nat),U V k,U V q,I,I,I,I,G L,m<|J ⟨K,p*10,X⟩,m<|J ⟨e,0,X⟩,m<|J ⟨e,0,X⟩,m<|J ⟨e,0,X⟩,U V (p:Nat),G ah,G L,m<|J ⟨e,0,X⟩,m<|J ⟨e,0,X⟩,m<|J ⟨e,5,X⟩,N (J ⟨K,0,X⟩) (nb+1)<|nb+1,U V (p:Nat),m<|J ⟨K,p*10,X⟩,U V k,I,I,I,I,I,I,I,I,I,I,I,I,I,I,I,I,I,I,I,I,I,I,I,I,I,I,I,I,I,I,I,I,I,I,I,I,I,I,I,I,I,I,I,I,I,I,I,I,I,I,I]
noncomputable section
variable{z:Nat}{O:Nat->Nat}{w:Z}{e:Nat}{c:iB}{vB vL:Y}{K R:Nat}{f:Nat->Y}{E:iE}{s0:Cells}{t0:aq}
def Tf{old:jL}(h:iS z O w e c vB vL K R f E)(p:Nat)(j:p<=c.D.nb)(k q:Int)(Q:aG->Act->Z->Prop)(hk:jH (jb old) A [0] pI (bE 0<|Exit.then (jH (jb old) A [] pZ Q) Q) ⟨xH e p c.D.nb K k q,[]⟩ w):jH (jb old) A [] kD Q ⟨#[m<|J ⟨e,0,X⟩,U V (p:Nat),U V k,U V q,I,I,I,I,I,I,I,I,I,I,I,I,I,I,I,I,I,I,I,I,I,I,I,I,I,I,I,I,I,I,I,I,I,I,I,I,I,I,I,I,I,I,I,I,I,I,I,I,I,I,I,I,I,I,I,I,I,I,I,I,I,I,I,I,I,I,I,I,I,I],[]⟩ w:=by
 have F:=(jD old).fits;have i:=(jD old).kg;have g:iX (p:Int) 0 c.D.nb=ah:=by simp[iX];omega
 rw[YO];apply nN (by kernel_rfl);case h=>intro a d;simp only[p0,kD,C,W,iA,iy];go_wp2;exact⟨rfl,a,d,rfl⟩
 case hk=>apply nN (by kernel_rfl);(case h=>intro a d;have b:mn (w.re a d) e c.D vB vL:=(h.re a d).known;simp only[p1,kD,C,W,iA,iy];go_wp2_with fail;refine(BE e c.D vB vL p _ b).mono ?_;rintro r l⟨rfl,rfl⟩;rw[g];go_wp2;exact⟨rfl,a,d,rfl⟩);case hk=>apply nN (by kernel_rfl);(case h=>intro a d;have c5:(w.re a d).cell? ⟨e,5,X⟩=J (N (J ⟨K,0,X⟩) (c.D.nb+1)<|c.D.nb+1):=(h.re a d).yB;(have i1:(0:Int)<=(p:Int):=by omega);(have i2:(p:Int)<(c.D.nb:Int)+1:=by omega);(have i3:(p:Int)<((c.D.nb+1:Nat):Int):=by omega);simp only[p3,kD,C,W,iA,iy];go_wp2;exact⟨rfl,a,d,rfl⟩);case hk=>refine kz F i.jS ?_;apply nN (by kernel_rfl);(case h=>intro a d;simp only[p4,kD,C,W,iA,iy];go_wp2;exact⟨rfl,a,d,rfl⟩);case hk=>refine qp F i.jS ?_;exact hk
end
def QP(fn:Func)(c:Y->Z->Prop)(e:aG)(a:Act)(b:Z):Prop:=(e=aj\/e=aY)/\(a.defers=[]->∃v,(results fn a.tmps).run A b=.ok v b/\c v b)
def uE{fn:Func}{k:Nat}(b:∀T:Array Y,results fn T=pure (T.getD k I)){Rr:Y->Z->Prop}{e:aG}{a:Act}(c:e=aj\/e=aY)(d:a.tmps.getD k I=n)(f:Rr n t):QP fn Rr e a t:=⟨c,λ_=>⟨n,by rw[b,d];rfl,f⟩⟩
def NY(T:Array Y):results C T=pure (T.getD 8 I):=Go.Rel.results_tmp rfl T
def Aa{old:jL}{x y:ae}(l:Go.Rel.mD A (mZ rh) x=ah){a:Act}{w:Z}{c:Z->Prop}(k:∀b g d,c b->c (b.re g d))(h:∀g d,x.wp A (λe a b=>e=aY/\a.tmps.getD 8 I=n/\c b) a<|w.re g d):jH (jb old) A [0] x (bE 0<|Exit.then (jH (jb old) A [] y<|QP C λv b=>v=n/\c b)<|QP C λv b=>v=n/\c b) a w:=by refine wP (uS (jD old).fits (jD old).kg (Cl l) (λe a b g d f=>⟨f.1,f.2.1,k _ _ _ f.2.2⟩) (λe a b f=>by rw[f.1];trivial) h) ?_;rintro e a b⟨rfl,j,i⟩;show QP C (λv b=>v=n/\c b) aY a b;exact uE NY (az rfl) j ⟨rfl,i⟩
def jW.from{O:Nat->Nat}{w:Z}{e:Nat}{c:iB}{K R:Nat}{E:iE}{i:Nat->aX->Nat}{d:Nat}(h:jW v O (w.re i d) e c n p K R E t):jW v O w e c n p K R E t:=by obtain⟨b,j,f,a,g⟩:=h;exact⟨b,j,f,⟨a.size,a.block⟩,g⟩
noncomputable section
variable{z:Nat}{O:Nat->Nat}{w:Z}{e:Nat}{c:iB}{vB vL:Y}{K R:Nat}{f:Nat->Y}{E:iE}{s0:Cells}{t0:aq}
abbrev z7(old:jL)(z:Nat)(O:Nat->Nat)(w:Z)(e:Nat)(c:iB)(vB vL:Y)(K R:Nat)(p:Nat)(k q:Int)(v:Y)(a:iE):Prop:=lj (jb old) A 36 #[m<|J ⟨e,0,X⟩,U V (p:Nat),U V k,U V q] w λr b=>r=v/\jW z O w e c vB vL K R a b
def yQ{old:jL}(h:iS z O w e c vB vL K R f E)(p:Nat)(d:p<=c.D.nb)(k q:Int)(v:Y)(b:Z->Prop)(hk:jH (jb old) A [0] pI (bE 0<|Exit.then (jH (jb old) A [] pZ<|QP C λr a=>r=v/\b a)<|QP C λr a=>r=v/\b a) ⟨xH e p c.D.nb K k q,[]⟩ w):lj (jb old) A 36 #[m<|J ⟨e,0,X⟩,U V (p:Nat),U V k,U V q] w λr a=>r=v/\b a:=by refine lj.xM (jD old).fits (jD old).kg.jS bT aaY ?_;rw[aeG];exact Tf h p d k q _ hk
def Zl{old:jL}(h:iS z O w e c vB vL K R f E)(l:Inv c s0 E)(p:Nat)(g:p<=c.D.nb)(q:Int):z7 old z O w e c vB vL K R p 1 q (G (lL c p<|E.part p).isSome)<|(mF E p<|lL c p<|E.part p).getD E:=by
 have F:=(jD old).fits;have B:=(jD old).kg.jS;have k:=l.e.part p g;refine yQ h p g 1 q _ _ ?_;rw[zH];apply nN (by kernel_rfl);case h=>intro a d;simp only[pI,kD,C,W,iA,iy,iL,xH];go_wp2;exact⟨rfl,a,d,rfl⟩
 case hk=>refine oQ F B trivial rfl ?_;refine Aa (by kernel_rfl) (λo a d i=>i.re a d) λa d=>?_;have s:=h.re a d;simp only[pI,kD,C,W,iA,iy,iL,iY,if_true];go_wp2_with fail;refine(acf z O _ e c vB vL K R f E s l.H p g k.win k.mN).mono ?_;rintro r o⟨rfl,i⟩;generalize j:(lL c p<|E.part p).isSome=b at*;have n:Hid<|_=_:=j;clear j;go_wp2_with fail;exact⟨n.out.symm,i.from⟩
def UX{old:jL}(M:1<=z)(h:iS z O w e c vB vL K R f E)(i:Inv c s0 E)(p:Nat)(j:p<=c.D.nb)(q:Int):z7 old z O w e c vB vL K R p 2 q (G (lK c p<|E.part p).isSome)<|(mF E p<|lK c p<|E.part p).getD E:=by
 have F:=(jD old).fits;have B:=(jD old).kg.jS;have g:=i.e.part p j;have k:=ar g.win i.H.W.2;have u:=λx l=>au (g.low x l) g.mN;have y:(E.part p).n<=100000:=by have:=g.cnt;have:=g.mN;have:=i.H.G.nl;omega
 refine yQ h p j 2 q _ _ ?_;rw[zH];apply nN (by kernel_rfl);case h=>intro a d;simp only[pI,kD,C,W,iA,iy,iL,xH];go_wp2;exact⟨rfl,a,d,rfl⟩
 case hk=>refine oQ F B trivial rfl ?_;rw[if_neg<|by simp,Am];apply nN (by kernel_rfl);(case h=>intro a d;simp only[nu,pI,kD,C,W,iA,iy,iL,jG];go_wp2;exact⟨rfl,a,d,rfl⟩);case hk=>refine oQ F B trivial rfl ?_;refine Aa (by kernel_rfl) (λv a d o=>o.re a d) λa d=>?_;have P:=h.re a d;simp only[nu,pI,kD,C,W,iA,iy,iL,iY,jG,if_true];go_wp2_with fail;refine(adm z M O _ e c vB vL K R f E P i.H p j k u y λx l=>g.xl x l).mono ?_;rintro r v⟨rfl,o⟩;generalize s:(lK c p<|E.part p).isSome=b at*;have t:Hid<|_=_:=s;clear s;go_wp2_with fail;exact⟨t.out.symm,o.from⟩
def KI(h:iS z O w e c vB vL K R f E)(a:Nat->aX->Nat)(d:Nat):jW z O w e c vB vL K R E<|w.re a d:=⟨O,f,h.re a d,⟨aK _,λ_ _ _=>rfl⟩,λ_ _=>rfl⟩
def Vo{old:jL}(h:iS z O w e c vB vL K R f E)(k:Inv c s0 E)(p:Nat)(i:p<=c.D.nb)(q:Int)(s:uf c.D.nb p q=L):z7 old z O w e c vB vL K R p 3 q (G L) E:=by
 have F:=(jD old).fits;have B:=(jD old).kg.jS;have b:=k.e.part p i;have t:=ar b.win k.H.W.2;have u:=λx l=>au (b.low x l) b.mN;refine yQ h p i 3 q _ _ ?_;rw[zH];apply nN (by kernel_rfl);case h=>intro a d;simp only[pI,kD,C,W,iA,iy,iL,xH];go_wp2;exact⟨rfl,a,d,rfl⟩
 case hk=>refine oQ F B trivial rfl ?_;rw[if_neg<|by simp,Am];apply nN (by kernel_rfl);(case h=>intro a d;simp only[nu,pI,kD,C,W,iA,iy,iL,jG];go_wp2;exact⟨rfl,a,d,rfl⟩);case hk=>refine oQ F B trivial rfl ?_;rw[if_neg<|by simp,CV];apply nN (by kernel_rfl);(case h=>intro a d;simp only[pT,nu,pI,kD,C,W,iA,iy,iL,jG];go_wp2;exact⟨rfl,a,d,rfl⟩);case hk=>refine oQ F B trivial rfl ?_;refine Aa (by kernel_rfl) (λo a d n=>n.re a d) λa d=>?_;have j:=h.re a d;have g:=j.known;have c5:=j.yB;simp only[pT,nu,pI,kD,C,W,iA,iy,iL,iY,jG,if_true];go_wp2_with fail;refine(DS e c.D vB vL p q _ g).mono ?_;rintro r o⟨rfl,rfl⟩;rw[s];go_wp2_with fail;exact KI h a d
def XT{old:jL}(h:iS z O w e c vB vL K R f E)(g:Inv c s0 E)(p:Nat)(k:p<=c.D.nb)(q:Nat)(u:q<=c.D.nb)(i:p≠q)(P:uf c.D.nb p q=ah):z7 old z O w e c vB vL K R p 3 q (G (n7 c p q E).isSome)<|(n7 c p q E).getD E:=by
 have F:=(jD old).fits;have B:=(jD old).kg.jS;have o:=g.e.part p k;have n:=ar o.win g.H.W.2;have M:=λx S=>au (o.low x S) o.mN;have j:=ar ((g.e.part q u).sH p) g.H.C.2;have i1:(0)<=(q):=by omega
 have i2:(q)<(c.D.nb)+1:=by omega
 have i3:(q)<((c.D.nb+1)):=by omega
 refine yQ h p k 3 q _ _ ?_;rw[zH];apply nN (by kernel_rfl);case h=>intro a d;simp only[pI,kD,C,W,iA,iy,iL,xH];go_wp2;exact⟨rfl,a,d,rfl⟩
 case hk=>refine oQ F B trivial rfl ?_;rw[if_neg<|by simp,Am];apply nN (by kernel_rfl);(case h=>intro a d;simp only[nu,pI,kD,C,W,iA,iy,iL,jG];go_wp2;exact⟨rfl,a,d,rfl⟩);case hk=>refine oQ F B trivial rfl ?_;rw[if_neg<|by simp,CV];apply nN (by kernel_rfl);(case h=>intro a d;simp only[pT,nu,pI,kD,C,W,iA,iy,iL,jG];go_wp2;exact⟨rfl,a,d,rfl⟩);case hk=>refine oQ F B trivial rfl ?_;refine Aa (by kernel_rfl) (λv a d s=>s.re a d) λa d=>?_;have t:=h.re a d;have l:=t.known;have c5:=t.yB;simp only[pT,nu,pI,kD,C,W,iA,iy,iL,iY,jG,if_true];go_wp2_with fail;refine(DS e c.D vB vL p q _ l).mono ?_;rintro r v⟨rfl,rfl⟩;rw[P];go_wp2_with fail;refine(Uc z O _ e c vB vL K R f E t g.H p q k u i n M j).mono ?_;rintro r v⟨rfl,s⟩;generalize y:(n7 c p q E).isSome=b at*;have Q:Hid<|_=_:=y;clear y;go_wp2_with fail;exact⟨Q.out.symm,s.from⟩
def XP{old:jL}(h:iS z O w e c vB vL K R f E)(k:Inv c s0 E)(p:Nat)(i:p<=c.D.nb)(q:Int)(s:uf c.D.nb p q=L):z7 old z O w e c vB vL K R p 4 q (G L) E:=by
 have F:=(jD old).fits;have B:=(jD old).kg.jS;have b:=k.e.part p i;have t:=ar b.win k.H.W.2;have u:=λx l=>au (b.low x l) b.mN;refine yQ h p i 4 q _ _ ?_;rw[zH];apply nN (by kernel_rfl);case h=>intro a d;simp only[pI,kD,C,W,iA,iy,iL,xH];go_wp2;exact⟨rfl,a,d,rfl⟩
 case hk=>refine oQ F B trivial rfl ?_;rw[if_neg<|by simp,Am];apply nN (by kernel_rfl);(case h=>intro a d;simp only[nu,pI,kD,C,W,iA,iy,iL,jG];go_wp2;exact⟨rfl,a,d,rfl⟩);case hk=>refine oQ F B trivial rfl ?_;rw[if_neg<|by simp,CV];apply nN (by kernel_rfl);(case h=>intro a d;simp only[pT,nu,pI,kD,C,W,iA,iy,iL,jG];go_wp2;exact⟨rfl,a,d,rfl⟩);case hk=>refine oQ F B trivial rfl ?_;rw[if_neg<|by simp,IQ];apply nN (by kernel_rfl);(case h=>intro a d;simp only[tD,pT,nu,pI,kD,C,W,iA,iy,iL,jG];go_wp2;exact⟨rfl,a,d,rfl⟩);case hk=>refine oQ F B trivial rfl ?_;refine Aa (by kernel_rfl) (λo a d n=>n.re a d) λa d=>?_;have j:=h.re a d;have g:=j.known;have c5:=j.yB;simp only[tD,pT,nu,pI,kD,C,W,iA,iy,iL,iY,jG,if_true];go_wp2_with fail;refine(DS e c.D vB vL p q _ g).mono ?_;rintro r o⟨rfl,rfl⟩;rw[s];go_wp2_with fail;exact KI h a d
def adj{old:jL}(h:iS z O w e c vB vL K R f E)(g:Inv c s0 E)(p:Nat)(j:p<=c.D.nb)(q:Nat)(hq:q<=c.D.nb)(M:p≠q)(Q:uf c.D.nb p q=ah):z7 old z O w e c vB vL K R p 4 q (G (kX q<|E.part p).isSome)<|(mF E p<|kX q<|E.part p).getD E:=by
 have F:=(jD old).fits;have B:=(jD old).kg.jS;have i:=g.e.part p j;have P:=ar i.win g.H.W.2;have T:=λx S=>au (i.low x S) i.mN;have n:=ar (i.sH q) g.H.C.2;have l:(E.part p).taken.length<=900:=ar (Hu<|g.pd p j) (by omega);have s:q<4:=by have:=g.H.G.nb;omega
 refine yQ h p j 4 q _ _ ?_;rw[zH];apply nN (by kernel_rfl);case h=>intro a d;simp only[pI,kD,C,W,iA,iy,iL,xH];go_wp2;exact⟨rfl,a,d,rfl⟩
 case hk=>refine oQ F B trivial rfl ?_;rw[if_neg<|by simp,Am];apply nN (by kernel_rfl);(case h=>intro a d;simp only[nu,pI,kD,C,W,iA,iy,iL,jG];go_wp2;exact⟨rfl,a,d,rfl⟩);case hk=>refine oQ F B trivial rfl ?_;rw[if_neg<|by simp,CV];apply nN (by kernel_rfl);(case h=>intro a d;simp only[pT,nu,pI,kD,C,W,iA,iy,iL,jG];go_wp2;exact⟨rfl,a,d,rfl⟩);case hk=>refine oQ F B trivial rfl ?_;rw[if_neg<|by simp,IQ];apply nN (by kernel_rfl);(case h=>intro a d;simp only[tD,pT,nu,pI,kD,C,W,iA,iy,iL,jG];go_wp2;exact⟨rfl,a,d,rfl⟩);case hk=>refine oQ F B trivial rfl ?_;refine Aa (by kernel_rfl) (λu a d o=>o.re a d) λa d=>?_;have t:=h.re a d;have k:=t.known;have c5:=t.yB;simp only[tD,pT,nu,pI,kD,C,W,iA,iy,iL,iY,jG,if_true];go_wp2_with fail;refine(DS e c.D vB vL p q _ k).mono ?_;rintro r u⟨rfl,rfl⟩;rw[Q];go_wp2_with fail;refine(Q5 z O _ e c vB vL K R f E t g.H p q j s n l).mono ?_;rintro r u⟨rfl,o⟩;generalize v:(kX q<|E.part p).isSome=b at*;have y:Hid<|_=_:=v;clear v;go_wp2_with fail;exact⟨y.out.symm,o.from⟩
end
def rp:ae:=iA<|iY<|iy wH
def aeN:iY (iy wH)=ak rp .ret:=by kernel_rfl
def Tz:rp=aV 14 ((opsL rp).take 5++opAt (opsL rp) 5::(opsL rp).drop 6).toArray L:=by kernel_rfl
def Xx:(opAt (opsL rp) 5).op=.call ⟨.value<|bd 67,#[an 68,an 72],#[167,116]⟩:=by kernel_rfl
def Ua(old:jL):∀o∈(opsL rp).take 5++oC (opAt (opsL rp) 5)::(opsL rp).drop 6,mr (jb old) A o:=rO<|by kernel_rfl
def adX:(opAt (opsL rp) 5).dst=J 73:=by kernel_rfl
def vP(e p nb K:Nat)(q:Int)(h g c a b f d:Y):Array Y:=#[m<|J ⟨e,0,X⟩,U V (p:Nat),U V 5,U V q,I,I,I,I,h,m<|J ⟨K,p*10,X⟩,m<|J ⟨e,0,X⟩,m<|J ⟨e,0,X⟩,m<|J ⟨e,0,X⟩,U V (p:Nat),G ah,G L,m<|J ⟨e,0,X⟩,m<|J ⟨e,0,X⟩,m<|J ⟨e,5,X⟩,N (J ⟨K,0,X⟩) (nb+1)<|nb+1,U V (p:Nat),m<|J ⟨K,p*10,X⟩,U V 5,G L,G L,I,I,I,I,G L,G L,I,I,G L,G L,I,I,I,I,I,I,I,I,I,I,I,I,I,I,I,I,G L,G L,I,I,I,I,I,I,I,I,I,I,I,I,I,G ah,G ah,g,c,a,b,f,d]
def Rz(e p nb K:Nat)(q:Int)(h a g c f b d:Y):(#[an 68,an 72]:Array aM).map (⟨vP e p nb K q h a g c f b d,[]⟩:Act).eval=#[a,b]:=by kernel_rfl
def QZ(e p nb K:Nat)(q:Int)(h d c a b f g v:Y):((⟨vP e p nb K q h d c a b f g,[]⟩:Act).put (J 73) v)=⟨vP e p nb K q h d c a b f v,[]⟩:=by kernel_rfl
def ace(ops:Array ao)(e p nb K R nl:Nat)(q:Int)(w:Z)(c6:w.cell? ⟨e,6,X⟩=J (N (J ⟨R,0,X⟩) nl nl)):wpList A ops (λb a c=>b=aj/\a=⟨vP e p nb K q (G L) (m<|J ⟨K,p*10,X⟩) (m<|J ⟨e,0,X⟩) (m<|J ⟨e,0,X⟩) (m<|J ⟨e,6,X⟩) (N (J ⟨R,0,X⟩) nl nl) I,[]⟩/\c=w) ((opsL rp).take 5) ⟨vP e p nb K q (G L) I I I I I I,[]⟩ w:=by simp only[opsL,rp,wH,tD,pT,nu,pI,kD,C,W,iA,iy,iL,iY,jG,vP,bN];go_wp2
def adQ(ops:Array ao)(e p nb K:Nat)(q:Int)(j g c h d f b:Y)(w:Z):wpList A ops (λk a i=>k=aj/\a=⟨vP e p nb K q b g c h d f b,[]⟩/\i=w) ((opsL rp).drop 6) ⟨vP e p nb K q j g c h d f b,[]⟩ w:=by simp only[opsL,rp,wH,tD,pT,nu,pI,kD,C,W,iA,iy,iL,iY,jG,vP,bO];go_wp2
noncomputable section
variable{z:Nat}{O:Nat->Nat}{w:Z}{e:Nat}{c:iB}{vB vL:Y}{K R:Nat}{E:iE}{s0:Cells}{t0:aq}
def ach{old:jL}(M:oj old t0)(P:1<=z)(o:nG z O w e c vB vL K R E)(H:Inv c s0 E)(p:Nat)(n:p<=c.D.nb)(q:Int):lj (jb old) A 36 #[m<|J ⟨e,0,X⟩,U V (p:Nat),U V 5,U V q] w λr g=>r=G (decide<|0<(ky c p<|E.part p).length)/\nB z O w e c vB vL K R ((lO c p<|E.part p).foldl (kS c.D p) E) g:=by
 have F:=(jD old).fits;have l:=(jD old).kg;have B:=l.jS;obtain⟨f,h⟩:=o.is;have y:=Y8 M P o H p n;refine yQ h p n 5 q _ _ ?_;rw[zH];apply nN (by kernel_rfl);case h=>intro b d;simp only[pI,kD,C,W,iA,iy,iL,jG,xH];go_wp2;exact⟨rfl,b,d,rfl⟩
 case hk=>refine oQ F B trivial (t:=L) rfl ?_;rw[if_neg<|by simp,Am];apply nN (by kernel_rfl);(case h=>intro b d;simp only[nu,pI,kD,C,W,iA,iy,iL,jG];go_wp2;exact⟨rfl,b,d,rfl⟩);case hk=>refine oQ F B trivial (t:=L) rfl ?_;rw[if_neg<|by simp,CV];apply nN (by kernel_rfl);(case h=>intro b d;simp only[pT,nu,pI,kD,C,W,iA,iy,iL,jG];go_wp2;exact⟨rfl,b,d,rfl⟩);case hk=>refine oQ F B trivial (t:=L) rfl ?_;rw[if_neg<|by simp,IQ];apply nN (by kernel_rfl);(case h=>intro b d;simp only[tD,pT,nu,pI,kD,C,W,iA,iy,iL,jG];go_wp2;exact⟨rfl,b,d,rfl⟩);case hk=>refine oQ F B trivial (t:=L) rfl ?_;rw[if_neg<|by simp,WQ];apply nN (by kernel_rfl);(case h=>intro b d;simp only[wH,tD,pT,nu,pI,kD,C,W,iA,iy,iL,jG];go_wp2;exact⟨rfl,b,d,rfl⟩);case hk=>refine oQ F B trivial (t:=ah) rfl ?_;rw[if_pos rfl,aeN];refine kz F B ?_;rw[Tz];refine Bm F l rfl Xx (by kernel_rfl) (pg<|by kernel_rfl) bQ (by kernel_rfl) (by kernel_rfl) (Ua old) (R:=λa g=>a=⟨vP e p c.D.nb K q (G L) (m<|J ⟨K,p*10,X⟩) (m<|J ⟨e,0,X⟩) (m<|J ⟨e,0,X⟩) (m<|J ⟨e,6,X⟩) (N (J ⟨R,0,X⟩) c.D.nl c.D.nl) I,[]⟩/\∃b d,g=w.re b d) (λa w b d i=>⟨i.1,by obtain⟨Q,T,rfl⟩:=i.2;exact⟨b,d,rfl⟩⟩) (λa w b d i=>oP i b d) (λb d=>qw (λe a g i=>⟨i.1,i.2.1,b,d,i.2.2⟩) _<|ace _ e p c.D.nb K R c.D.nl q (w.re b d) (h.re b d).MV) ?_;rintro S g⟨rfl,b,d,rfl⟩;refine⟨λv g=>v=G (decide<|0<(ky c p<|E.part p).length)/\nB z O w e c vB vL K R ((lO c p<|E.part p).foldl (kS c.D p) E) g,?_,?_⟩;(.rw[Rz];exactλs=>(y s).re b d);rintro v x⟨rfl,u⟩j d2;rw[adX,QZ];refine qw ?_ _<|adQ _ e p c.D.nb K q _ _ _ _ _ _ _<|x.re j d2;rintro ex a w3⟨rfl,rfl,rfl⟩;refine⟨rfl,Nk F B ?_⟩;exact uE (k:=8) (Rr:=λr g=>r=G (decide<|0<(ky c p<|E.part p).length)/\nB z O w e c vB vL K R ((lO c p<|E.part p).foldl (kS c.D p) E) g) NY (az rfl) rfl ⟨rfl,u.re j d2⟩
def Jf{old:jL}(B:oj old t0)(t:1<=z)(j:nG z O w e c vB vL K R E)(n:Inv c s0 E)(p k q:Nat)(l:p<=c.D.nb)(y:1<=k)(x:k<=5)(o:q<=c.D.nb):lj (jb old) A 36 #[m<|J ⟨e,0,X⟩,U V (p:Nat),U V (k:Nat),U V (q:Nat)] w λr i=>r=G (jI c E p k q).isSome/\nB z O w e c vB vL K R (iZ c E (p,k,q)) i:=by
 obtain⟨f,h⟩:=j.is;have g:p=q->uf c.D.nb p q=L:=by rintro rfl;simp[uf]
 have b:p≠q->uf c.D.nb p q=ah:=by intro u;simp only[uf,iX,bM,Bool.not_eq_true',beq_eq_false_iff_ne,decide_eq_true_eq];omega
 have:k=1\/k=2\/k=3\/k=4\/k=5:=by omega
 rcases this with rfl|rfl|rfl|rfl|rfl;.refine(Zl h n p l q).mono ?_;rintro v i⟨rfl,d⟩;refine⟨?_,j.goes ?_⟩;(.simp only[jI,if_true,mF,Option.isSome_map]);.simpa only[iZ,jI,if_true]using d
 .refine(UX t h n p l q).mono ?_;rintro v i⟨rfl,d⟩;refine⟨?_,j.goes ?_⟩;(.simp[jI,mF]);.simpa[iZ,jI]using d
 .by_cases a:p=q;(.refine(Vo h n p l q<|g a).mono ?_;rintro v i⟨rfl,d⟩;refine⟨?_,j.goes ?_⟩;(.simp[jI,a]);.simpa[iZ,jI,a]using d);.refine(XT h n p l q o a<|b a).mono ?_;rintro v i⟨rfl,d⟩;refine⟨?_,j.goes ?_⟩;(.simp[jI,a,o]);.simpa[iZ,jI,a,o]using d
 .by_cases a:p=q;(.refine(XP h n p l q<|g a).mono ?_;rintro v i⟨rfl,d⟩;refine⟨?_,j.goes ?_⟩;(.simp[jI,a]);.simpa[iZ,jI,a]using d);.refine(adj h n p l q o a<|b a).mono ?_;rintro v i⟨rfl,d⟩;refine⟨?_,j.goes ?_⟩;(.simp[jI,mF,a,o]);.simpa[iZ,jI,a,o]using d
 .refine(ach B t j n p l q).mono ?_;rintro v i⟨rfl,d⟩;by_cases s:ky c p (E.part p)=[];(.refine⟨by simp[jI,pK,s],?_⟩;simpa[iZ,jI,pK,s,lO]using d);.refine⟨by simp[jI,pK,s,List.length_pos_iff],?_⟩;simpa[iZ,jI,pK,s]using d
end
def A6:ae:=Tryz.f15.body.getD aN
def ZH:Tryz.f15.body=J A6:=rfl
def d0:ae:=iA A6
def d1:ae:=iA<|iy A6
def adh:A6=ak d0 (ak d1 .ret):=by kernel_rfl
def X9(a b:Y):(#[a,b]++bw (Tryz.f15.ntmps-(#[a,b]:Array Y).size) I)=#[a,b,I,I,I,I,I,I,I,I,I,I,I,I,I,I,I,I,I,I,I,I,I,I,I,I,I,I]:=by kernel_rfl
def jV:ae->Array ao|aV _ o _=>o|_=>#[]
def Ty:d1=aV 1 (jV d1) ah:=by kernel_rfl
def JU:qW .any (jV d1) 22 [22,23]=ah/\qW .text (jV d1) 22 [22,23]=ah/\qW .gc (jV d1) 22 [22,23]=ah:=⟨by kernel_rfl,by kernel_rfl,by kernel_rfl⟩
def Z7(a:Bool):uF a (jV d1) 22 [22,23]:=⟨λ_=>sC JU.1,λ_ _=>⟨sC JU.2.1,sC JU.2.2⟩⟩
def JC{ops:Array ao}{n:Nat}(h:(ops.toList.all λo=>o.guard.isNone)=ah):∀(i:Nat)o j a,i<n->ops[i]?=J o->o.guard=J (j,a)->j<n:=by intro i o j a _ b c;have:=aZ.1 h o (by simpa using Array.mem_of_getElem? b);rw[c]at this;cases this
def IH{old:jL}{ops:Array ao}{n:Nat}(h:((ops.toList.take n).all λo=>AJ A (mZ rh) o)=ah):∀(i:Nat)o,i<n->ops[i]?=J o->mr (jb old) A o:=by intro i o hi a;refine rO h o ?_;rw[bR];exact⟨i,by rw[List.getElem?_take,if_pos hi];simpa using a⟩
def XV(g e c B:Nat)(P d h:Int)(w:Z)(k:0<c)(v:c<=4)(t:ji P)(u:ji d)(z:ji h)(c0:w.cell? ⟨g,0,X⟩=J (m<|J ⟨e,0,X⟩))(c7:w.cell? ⟨g,7,X⟩=J (U V (c:Nat)))(b0:w.cell? ⟨B,0,X⟩=J (U V P))(b1:w.cell? ⟨B,1,X⟩=J (U V d))(b2:w.cell? ⟨B,2,X⟩=J (U V h)):(aV 1 ((jV d1).extract 0 22) ah).wp A (λex a x=>ex=aj/\a.tmps.size=28/\a.defers=[]/\a.tmps.getD 8 I=m (J ⟨e,0,X⟩)/\a.tmps.getD 15 I=U V (ju P c:Nat)/\a.tmps.getD 19 I=U V ((1+ju d 5:Nat):Int)/\a.tmps.getD 26 I=U V (ju h c:Nat)/\iD (λ_=>True) w x) ⟨#[m<|J ⟨g,0,X⟩,aU #[U V P,U V d,U V h],I,m<|J ⟨B,0,X⟩,G L,I,I,I,I,I,I,I,I,I,I,I,I,I,I,I,I,I,I,I,I,I,I,I],[]⟩ w:=by
 have F:ju d 5<5:=tC _ (by omega);simp only[jV,d1,A6,bm,W,iA,iy,List.extract_toArray,List.extract_eq_take_drop,List.take_succ_cons,List.take_zero,List.drop_zero,Nat.sub_zero];have n:∀b,Calls A 19 #[U V P,U V (c:Nat)] b λr f=>r=.returned (U V (ju P c:Nat))/\Below b.heap.size b f:=λb=>(D6 P c k (by omega) t b).mono λr f⟨j,l⟩=>⟨j,l▸bz _ _⟩;have o:∀b,Calls A 19 #[U V d,U V 5] b λr f=>r=.returned (U V (ju d 5:Nat))/\Below b.heap.size b f:=λb=>(D6 d 5 (by omega) (by omega) u b).mono λr f⟨j,l⟩=>⟨j,l▸bz _ _⟩;have q:∀b,Calls A 19 #[U V h,U V (c:Nat)] b λr f=>r=.returned (U V (ju h c:Nat))/\Below b.heap.size b f:=λb=>(D6 h c k (by omega) z b).mono λr f⟨j,l⟩=>⟨j,l▸bz _ _⟩;have E:=cell_regrown c0;have f7:=cell_regrown c7;have g0:=cell_regrown b0;have D:=cell_regrown b1;have H:=cell_regrown b2;clear c0 c7 b0 b1 b2;refine wp_region_quiet_below (by kernel_rfl) (by kernel_rfl) ?_;repeat(go_big_quiet_step(first|(go_at_call_of 19(U V P);exact bF<|n _)|(go_at_call_of 19(U V d);exact bF<|o _)|(go_at_call_of 19(U V h);exact bF<|q _)))
 refine wpQuiet_nil ?_;intro _ p;obtain⟨⟨y,s⟩,i⟩:=p;subst i;refine⟨rfl,rfl,rfl,rfl,rfl,?_,rfl,iD.jF<|below_regrown w y s⟩;show U V (1+((ju d 5:Nat):Int))=_;rw[Int.natCast_add];rfl
def nG.iR{O O':Nat->Nat}{w w':Z}{e:Nat}{c:iB}{K R:Nat}{E:iE}(h:nG v O w e c n p K R E)(hk:iD (λ_=>True) w w')(g:∀b,b<w.heap.size->O' b=O b):nG v O' w' e c n p K R E:=by obtain⟨f,i⟩:=h.is;have a:Ag v O w w':=⟨hk.size,λb _ d=>hk.block b trivial d⟩;exact⟨⟨f,i.move (λb d=>hk.block b trivial d) hk.size g⟩,h.lr.move a g,by have:=h.n0;unfold ph Own at*;rw[g 0 h.pos];exact this,h.zero.move h.n0 a h.pos,au h.pos hk.size⟩
def iD.ag{O:Nat->Nat}{w:Z}(hk:iD (λ_=>True) w t):Ag v O w t:=⟨hk.size,λb _ a=>hk.block b trivial a⟩
def Wv:(jV d1)[22]?=J (opAt (opsL d1) 22)/\(jV d1)[23]?=J (opAt (opsL d1) 23)/\(opAt (opsL d1) 22).op=.call ⟨.value<|bd 36,#[an 8,an 15,an 19,an 26],#[57,3,3,3]⟩/\(opAt (opsL d1) 22).guard=X/\(opAt (opsL d1) 22).dst=J 27/\(opAt (opsL d1) 23).op=.assign (an 27)/\(opAt (opsL d1) 23).guard=X/\(opAt (opsL d1) 23).dst=J 4:=⟨by kernel_rfl,by kernel_rfl,by kernel_rfl,by kernel_rfl,by kernel_rfl,by kernel_rfl,by kernel_rfl,by kernel_rfl⟩
def Re(T:Array Y):results bm T=pure (T.getD 4 I):=Go.Rel.results_tmp (fn:=bm) (k:=4) rfl T
def m8{a:Act}{d:Nat}(v:Y)(h:d<a.tmps.size):(a.put (J d) v).tmps.getD d I=v:=by simp[Act.put,h]
def oJ(a:Act)(k:Nat):a.eval (an k)=a.tmps.getD k I:=rfl
def kx(a:Act)(d:Nat)(v:Y):(a.put (J d) v).tmps.size=a.tmps.size:=by simp[Act.put]
noncomputable section
variable{z:Nat}{O:Nat->Nat}{w:Z}{e:Nat}{c:iB}{vB vL:Y}{K R:Nat}{E:iE}{s0:Cells}{t0:aq}
def XR(g:Nat)(P d b:Int)(w:Z):d0.wp A (λex a f=>ex=aj/\a=⟨#[m<|J ⟨g,0,X⟩,aU #[U V P,U V d,U V b],I,m<|J ⟨w.heap.size,0,X⟩,G L,I,I,I,I,I,I,I,I,I,I,I,I,I,I,I,I,I,I,I,I,I,I,I],[]⟩/\f=w.alloc (ai #[U V P,U V d,U V b] 49)) ⟨#[m<|J ⟨g,0,X⟩,aU #[U V P,U V d,U V b],I,I,I,I,I,I,I,I,I,I,I,I,I,I,I,I,I,I,I,I,I,I,I,I,I,I],[]⟩ w:=by simp only[d0,A6,bm,W,iA,iy];go_wp2
def D8{old:jL}(h0:oj old t0)(hz:1<=z)(hE:nG z O w e c vB vL K R E)(hI:Inv c s0 E)(g:Nat)(P i h:Int)(hP:ji P)(hK:ji i)(hQ:ji h)(c0:w.cell? ⟨g,0,X⟩=J (m<|J ⟨e,0,X⟩))(c7:w.cell? ⟨g,7,X⟩=J (U V ((c.D.nb+1:Nat):Int))):lj (jb old) A 15 #[m<|J ⟨g,0,X⟩,aU #[U V P,U V i,U V h]] w λr l=>r=G (jI c E (ju P<|c.D.nb+1) (1+ju i 5)<|ju h<|c.D.nb+1).isSome/\nB z O w e c vB vL K R (iZ c E (ju P<|c.D.nb+1,1+ju i 5,ju h<|c.D.nb+1)) l:=by
 have F:=(jD old).fits;have S:=(jD old).kg;have B:=S.jS;have hp:ju P (c.D.nb+1)<c.D.nb+1:=tC _ (by omega);have f:ju h (c.D.nb+1)<c.D.nb+1:=tC _ (by omega);have hk:ju i 5<5:=tC _ (by omega);have al:=hI.H.G.nb;refine lj.xM F B Tryz.func15 ZH ?_;rw[X9,adh];change jH _ _ _ _ (QP bm λr l=>r=G (jI c E (ju P<|c.D.nb+1) (1+ju i 5)<|ju h<|c.D.nb+1).isSome/\nB z O w e c vB vL K R (iZ c E (ju P<|c.D.nb+1,1+ju i 5,ju h<|c.D.nb+1)) l) _ _;refine kz F B<|wP (uS (ids:=[]) F S (Cl<|by kernel_rfl) (Q:=λex a l=>ex=aj/\a=⟨#[m<|J ⟨g,0,X⟩,aU #[U V P,U V i,U V h],I,m<|J ⟨w.heap.size,0,X⟩,G L,I,I,I,I,I,I,I,I,I,I,I,I,I,I,I,I,I,I,I,I,I,I,I],[]⟩/\∃n d,l=(w.alloc<|ai #[U V P,U V i,U V h] 49).re n d) (λe a l n d f=>⟨f.1,f.2.1,by obtain⟨am,d',rfl⟩:=f.2.2;exact⟨n,d,rfl⟩⟩) (λe a l f=>by rw[f.1];trivial) λn d=>iM (XR g P i h<|w.re n d) λe a l f=>⟨f.1,f.2.1,n,d,f.2.2⟩) ?_;rintro ex a w1⟨rfl,rfl,n,d,rfl⟩;refine oP ?_ n d;clear n d;have p:iD (λ_=>True) w<|w.alloc<|ai #[U V P,U V i,U V h] 49:=(iD.refl _ _).alloc _;have t:=p.cell (b:=g) (o:=0) trivial<|bC _ _ c0;have u:=p.cell (b:=g) (o:=7) trivial<|bC _ _ c7;rw[c0]at t;rw[c7]at u;have rB:=km w [U V P,U V i,U V h] 49;have b0:(w.alloc<|ai #[U V P,U V i,U V h] 49).cell? ⟨w.heap.size,0,X⟩=J (U V P):=rB.cell (j:=0) (by simp);have b1:(w.alloc<|ai #[U V P,U V i,U V h] 49).cell? ⟨w.heap.size,1,X⟩=J (U V i):=rB.cell (j:=1) (by simp);have b2:(w.alloc<|ai #[U V P,U V i,U V h] 49).cell? ⟨w.heap.size,2,X⟩=J (U V h):=rB.cell (j:=2) (by simp);have M:=hE.iR p (O':=nF O w.heap.size) λb q=>qu O q;have x:Ag z O w<|w.alloc<|ai #[U V P,U V i,U V h] 49:=p.ag;generalize w.alloc (ai #[U V P,U V i,U V h] 49)=w1 at*;obtain⟨o1,o2,o3,o4,o5,o6,o7,o8⟩:=Wv;refine kz F B ?_;rw[Ty];refine GI F S (R:=λa l=>a.tmps.size=28/\a.defers=[]/\a.tmps.getD 8 I=m (J ⟨e,0,X⟩)/\a.tmps.getD 15 I=U V (ju P<|c.D.nb+1:Nat)/\a.tmps.getD 19 I=U V ((1+ju i 5:Nat):Int)/\a.tmps.getD 26 I=U V (ju h<|c.D.nb+1:Nat)/\iD (λ_=>True) w1 l) (Z7 _) (by decide) (JC<|by kernel_rfl) (IH<|by kernel_rfl) (λa l n d f=>⟨f.1,f.2.1,f.2.2.1,f.2.2.2.1,f.2.2.2.2.1,f.2.2.2.2.2.1,f.2.2.2.2.2.2.size,f.2.2.2.2.2.2.block⟩) (λn d=>iM (XV g e (c.D.nb+1) w.heap.size P i h (w1.re n d) (by omega) (by omega) hP hK hQ t u b0 b1 b2) λex a l f=>⟨f.1,f.2.1,f.2.2.1,f.2.2.2.1,f.2.2.2.2.1,f.2.2.2.2.2.1,f.2.2.2.2.2.2.1,f.2.2.2.2.2.2.2.size,f.2.2.2.2.2.2.2.block⟩) ?_;rintro b k cs a' l q _⟨hs,hd,h8,ad,T,ac,y⟩;have aa:=M.iR y (O':=nF O w.heap.size) λb q=>rfl;have s:(#[an 8,an 15,an 19,an 26]:Array aM).map a'.eval=#[m<|J ⟨e,0,X⟩,U V (ju P<|c.D.nb+1:Nat),U V ((1+ju i 5:Nat):Int),U V (ju h<|c.D.nb+1:Nat)]:=by simp only[List.map_toArray,bU,bV,oJ,h8,ad,T,ac]
 refine Reach.path F B o1 o3 o4 (pg<|by kernel_rfl) bT (by kernel_rfl) (by kernel_rfl) (by rw[s];exact Jf h0 hz aa hI _ _ _ (by omega) (by omega) (by omega)<|by omega) ?_;rintro v w2⟨rfl,hg⟩;rw[o5];refine Reach.Hc F B o2 (az o6) o7 trivial ?_;rw[o8,oJ,m8 _<|by rw[hs];decide];refine Reach.last F B<|.stop ⟨aj,_,_,rfl,?_,rfl⟩;refine Nk F B<|uE (k:=4) Re (az rfl) (m8 _<|by rw[kx,hs];decide) ⟨rfl,?_⟩;exact nB.step (x.step y.ag λb q=>qu O q) (λb q=>qu O q) hg
end
def oT:ae:=Tryz.f33.body.getD aN
def abO:Tryz.f33.body=J oT:=rfl
def e0:ae:=iA oT
def e1:ae:=iA<|iy oT
def e2:ae:=iA<|iy<|iy oT
def e3:ae:=iA<|iy<|iy<|iy oT
def e5:ae:=iA<|iy<|iy<|iy<|iy oT
def e6:ae:=iA<|iA<|iy<|iy<|iy<|iy<|iy oT
def ja:ae->ae|.loop c=>c|_=>aN
def eL:ae:=ja<|iL<|iy<|iA<|iy<|iy<|iy<|iy<|iy oT
def eZ:ae:=iy<|iy<|iy<|iy<|iy<|iy oT
def afN:oT=ak e0 (ak e1<|ak e2<|ak e3<|ak e5<|ak (ak e6<|bD 0<|.loop eL) eZ):=by kernel_rfl
def Ys:((#[]:Array Y)++bw (Tryz.f33.ntmps-(#[]:Array Y).size) I)=#[I,I,I,I,I,I,I,I,I,I,I,I,I,I,I,I,I,I,I,I,I,I,I,I,I,I,I,I,I,I,I,I,I,I,I,I,I,I,I,I,I,I,I,I,I,I,I,I,I,I,I,I,I,I,I,I,I,I,I,I,I,I,I,I,I,I,I,I,I,I,I,I,I,I,I,I,I,I,I,I,I,I,I,I,I,I,I,I,I,I,I,I,I,I,I,I,I,I,I,I,I,I,I,I,I,I,I,I,I,I,I,I,I,I,I,I,I,I,I,I,I,I,I,I,I,I,I,I,I,I,I,I,I,I,I,I,I,I,I,I,I,I,I,I,I,I,I,I,I,I,I,I,I,I,I,I]:=by kernel_rfl
def yo{w:Z}{g:Nat}{l:List Int}{k n cap:Nat}(h:iJ w g v l.length<|lc<|l.map<|U V)(c:n*k=l.length)(a:n<=1048577):iQ w (N (J ⟨g,0,X⟩) n cap) k n<|oE l:=by refine⟨_,_,rfl,a,λ_=>⟨g,0,rfl,h.lt,λj b=>?_⟩⟩;rw[aP,h.cell<|by omega];unfold lc oE;grind
def Mh(w:Z)(k:Nat)(f:Nat->Int):iQ w (N X 0 0) k 0 f:=⟨_,_,rfl,by omega,λh=>by omega⟩
def xu(w:Z)(l:List Int)(T:aq):iJ (w.alloc<|ai (l.map<|U V).toArray T) w.heap.size T l.length<|lc<|l.map<|U V:=by have:=km w (l.map<|U V) T;grind
abbrev KV(w:Z):Z:=w.alloc<|ai #[U V 10] 3
abbrev N7(w:Z):Z:=(KV w).alloc<|ai #[U V 60] 3
abbrev KO(w:Z):Z:=(N7 w).alloc<|ai #[U V 2,U V 0,U V 10,U V 0,U V 2,U V 1,U V 60,U V 0,U V 7,U V 2,U V 0,U V 1,U V 3,U V 60,U V 2,U V 0] 161
abbrev MY(w:Z):Z:=(KO w).alloc<|ai #[U V 99] 3
abbrev L9(w:Z):Z:=(MY w).alloc<|ai #[U V 60] 3
abbrev KZ(w:Z):Z:=(L9 w).alloc<|ai #[U V 2,U V 0,U V 60,U V 0,U V 3,U V 60,U V 0,U V 0] 161
abbrev yH(w:Z):Z:=(KZ w).alloc<|ai #[N (J ⟨w.heap.size,0,X⟩) 1 1,N (J ⟨w.heap.size+1,0,X⟩) 1 1,N X 0 0,N (J ⟨w.heap.size+1+1,0,X⟩) 4 4,N (J ⟨w.heap.size+1+1+1,0,X⟩) 1 1,N (J ⟨w.heap.size+1+1+1+1,0,X⟩) 1 1,N X 0 0,N (J ⟨w.heap.size+1+1+1+1+1,0,X⟩) 2 2] 91
def Qg(w:Z):lI (yH w) (N (J ⟨w.heap.size+1+1+1+1+1+1,0,X⟩) 2 2) 2 zj:=by
 have r0:iJ (yH w) (w.heap.size) 3 1<|lc<|([10]).map<|U V:=by have h:=xu w [10] 3;(try simp only[aI]at h);exact((((((h.alloc _).alloc _).alloc _).alloc _).alloc _).alloc _)
 have r1:iJ (yH w) (w.heap.size+1) 3 1<|lc<|([60]).map<|U V:=by have h:=xu (KV w) [60] 3;(try simp only[aI]at h);exact(((((h.alloc _).alloc _).alloc _).alloc _).alloc _)
 have r2:iJ (yH w) (w.heap.size+1+1) 161 16<|lc<|([2,0,10,0,2,1,60,0,7,2,0,1,3,60,2,0]).map<|U V:=by have h:=xu (N7 w) [2,0,10,0,2,1,60,0,7,2,0,1,3,60,2,0] 161;(try simp only[aI]at h);exact((((h.alloc _).alloc _).alloc _).alloc _)
 have r3:iJ (yH w) (w.heap.size+1+1+1) 3 1<|lc<|([99]).map<|U V:=by have h:=xu (KO w) [99] 3;(try simp only[aI]at h);exact(((h.alloc _).alloc _).alloc _)
 have r4:iJ (yH w) (w.heap.size+1+1+1+1) 3 1<|lc<|([60]).map<|U V:=by have h:=xu (MY w) [60] 3;(try simp only[aI]at h);exact((h.alloc _).alloc _)
 have r5:iJ (yH w) (w.heap.size+1+1+1+1+1) 161 8<|lc<|([2,0,60,0,3,60,0,0]).map<|U V:=by have h:=xu (L9 w) [2,0,60,0,3,60,0,0] 161;(try simp only[aI]at h);exact(h.alloc _)
 have rL:iJ (yH w) (w.heap.size+1+1+1+1+1+1) 91 8<|lc [N (J ⟨w.heap.size,0,X⟩) 1 1,N (J ⟨w.heap.size+1,0,X⟩) 1 1,N X 0 0,N (J ⟨w.heap.size+1+1,0,X⟩) 4 4,N (J ⟨w.heap.size+1+1+1,0,X⟩) 1 1,N (J ⟨w.heap.size+1+1+1+1,0,X⟩) 1 1,N X 0 0,N (J ⟨w.heap.size+1+1+1+1+1,0,X⟩) 2 2]:=by have h:=km (KZ w) [N (J ⟨w.heap.size,0,X⟩) 1 1,N (J ⟨w.heap.size+1,0,X⟩) 1 1,N X 0 0,N (J ⟨w.heap.size+1+1,0,X⟩) 4 4,N (J ⟨w.heap.size+1+1+1,0,X⟩) 1 1,N (J ⟨w.heap.size+1+1+1+1,0,X⟩) 1 1,N X 0 0,N (J ⟨w.heap.size+1+1+1+1+1,0,X⟩) 2 2] 91;simp_all
 refine⟨_,_,rfl,by omega,λ_=>⟨_,0,rfl,rL.lt,lc [N (J ⟨w.heap.size,0,X⟩) 1 1,N (J ⟨w.heap.size+1,0,X⟩) 1 1,N X 0 0,N (J ⟨w.heap.size+1+1,0,X⟩) 4 4,N (J ⟨w.heap.size+1+1+1,0,X⟩) 1 1,N (J ⟨w.heap.size+1+1+1+1,0,X⟩) 1 1,N X 0 0,N (J ⟨w.heap.size+1+1+1+1+1,0,X⟩) 2 2],λj a=>by rw[aP,rL.cell<|by omega],λi hi=>?_⟩⟩;have:i=0\/i=1:=by omega
 rcases this with rfl|rfl;.exact⟨yo r0 (by decide)<|by decide,yo r1 (by decide)<|by decide,Mh _ _ _,yo r2 (by decide)<|by decide⟩
 .exact⟨yo r3 (by decide)<|by decide,yo r4 (by decide)<|by decide,Mh _ _ _,yo r5 (by decide)<|by decide⟩
def aau(w:Z):e1.wp A (λex a b=>ex=aj/\a.tmps.size=156/\a.defers=[]/\(∃c,a.tmps.getD 1 I=c/\lI b c 2 zj)/\iD (λ_=>True) w b) ⟨#[G L,I,I,I,I,I,I,I,I,I,I,I,I,I,I,I,I,I,I,I,I,I,I,I,I,I,I,I,I,I,I,I,I,I,I,I,I,I,I,I,I,I,I,I,I,I,I,I,I,I,I,I,I,I,I,I,I,I,I,I,I,I,I,I,I,I,I,I,I,I,I,I,I,I,I,I,I,I,I,I,I,I,I,I,I,I,I,I,I,I,I,I,I,I,I,I,I,I,I,I,I,I,I,I,I,I,I,I,I,I,I,I,I,I,I,I,I,I,I,I,I,I,I,I,I,I,I,I,I,I,I,I,I,I,I,I,I,I,I,I,I,I,I,I,I,I,I,I,I,I,I,I,I,I,I,I],[]⟩ w:=by simp only[e1,oT,bX,W,iA,iy];go_wp2_with fail;refine⟨?_,((((((((iD.refl _ _).alloc _).alloc _).alloc _).alloc _).alloc _).alloc _).alloc _)⟩;exact Qg w
def fr(n:Nat)(g:Nat->Y):Array Y:=((aF n).map g).toArray
def GO{n:Nat}{T:Array Y}(h:T.size=n):∃g:Nat->Y,T=fr n g/\∀k,T.getD k I=g k:=⟨λk=>T.getD k I,AN h,λ_=>rfl⟩
def agf(w:Z)(n:Y)(o:lI w n 2 zj)(g:Nat->Y):e2.wp A (λex a l=>ex=aj/\a.tmps.size=156/\a.defers=[]/\(∃e c b K R M,a.tmps.getD 2 I=m (J ⟨e,0,X⟩)/\a.tmps.getD 3 I=U V 0/\a.tmps.getD 4 I=U V 0/\sw (w.heap.size+2) l e n8.D 2 1 1 c b K R M 2 uy)/\iD (λ_=>True) w l) ⟨fr 156<|upd g 1 n,[]⟩ w:=by
 simp only[fr,upd,aF,List.range.loop,bU,bV,Nat.reduceEqDiff,reduceIte];have d:Below w.heap.size w<|(w.alloc<|ai #[U V 50] 3).alloc<|ai #[U V 10,U V 5,U V 60,U V 7] 81:=((bz _ _).alloc (aK _) _).alloc (by simp) _;have s:iQ ((w.alloc<|ai #[U V 50] 3).alloc<|ai #[U V 10,U V 5,U V 60,U V 7] 81) (N (J ⟨w.heap.size,0,X⟩) 1 1) 1 1<|oE [50]:=yo ((xu w [50] 3).alloc _) (by decide) (by decide);have q:iQ ((w.alloc<|ai #[U V 50] 3).alloc<|ai #[U V 10,U V 5,U V 60,U V 7] 81) (N (J ⟨w.heap.size+1,0,X⟩) 2 2) 2 2 uy:=by have h:=xu (w.alloc<|ai #[U V 50] 3) [10,5,60,7] 81;simp only[aI]at h;exact yo h (by decide) (by decide)
 have f:=o.below d;have i:((w.alloc<|ai #[U V 50] 3).alloc<|ai #[U V 10,U V 5,U V 60,U V 7] 81).heap.size=w.heap.size+2:=by simp
 obtain⟨v,y,rfl,-,-⟩:=id o;simp only[e2,oT,bX,W,iA,iy];go_wp2_with fail;refine(NV _ _ _ 2 1 1 1 (oE [50]) 2 zj 2 uy _ s f q ?_ MR JZ ZR).mono ?_;.intro j x;(have:j=0\/j=1:=by omega);rcases this with rfl|rfl<;>rfl
 rintro r t⟨e,c,b,K,R,M,rfl,k,p⟩;rw[i]at k;have u:iD (λ_=>True) w t:=(iD.jF d).trans<|iD.jF p;go_wp2_with fail;exact⟨c,b,K,R,M,k⟩
end
end Go.Proofs.YtldeiiffabfmeaaGreatDoor
