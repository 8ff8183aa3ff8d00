/- - -/
import Derived.Test.YtldeiiffabfmeaaGreatDoorAim
set_option linter.all false
set_option maxRecDepth 100000
set_option maxHeartbeats 4000000
open Go.Proofs.Tryz renaming prog->WG,func109->Xb,func130->Xz,func136->XA
open Option renaming some->WH,none->WJ,getD_some->Xl,map_eq_some_iff->Xn,map_some->Xu
open Array renaming getElem?_push->WI,getD_eq_getD_getElem?->WN,getElem?_setIfInBounds_ne->WR,getElem?_eq_some_iff->WU,mem_of_getElem?->Xd,replicate->Xh
open Bool renaming and_eq_true->WK,true->WM,false->WO
open Go renaming Value->WL,World->WQ,Frame->WT,TypeId->WX,undef->W0,Operand->Xa,Goroutine->Xk,Program->Xm,Addr->Xq,Oper->Xv,Item->Xw,Code->XB,Question->XD
open Go.Conc.Goes renaming stop->WV,step->Xe
open Go.Frame renaming enter->WY
open List renaming all_eq_true->WZ,getElem?_append_right->W6,getElem?_append_left->W7,getElem?_cons_zero->W8,getElem?_cons_succ->W9,getElem?_toArray->Xc,range->Xf,setIfInBounds_toArray->Xi,mem_singleton->Xp
open Go.Act renaming eval->W3
open Option.some renaming injEq->W4
open Nat renaming le_refl->W5,eq_zero_or_pos->Xo,lt_or_ge->Xr,le_of_not_lt->Xs,le_succ->Xt,le_trans->Xx,zero_le->XC
open Go.Region renaming wanted->Xg,binds->Xy,Mode->XE
open Go.ConcN renaming WgLive->Xj
namespace Go.Rel
section
variable{ok:ak}{P:Xm}
mutual def j4:WL->Bool|.bool _|.int _ _|.string _|.pointer WJ|.slice WJ _ _|.map WJ|.nilFunc|.nilIface=>WM|.agg ⟨x⟩|.tuple ⟨x⟩=>xA x|_=>WO def xA:List WL->Bool|[]=>WM|v::vs=>j4 v&&xA vs end
mutual theorem ye:∀{v:WL},j4 v=WM->Flat v|.bool _,_=>trivial|.int _ _,_=>trivial|.string _,_=>trivial|.pointer WJ,_=>trivial|.slice WJ _ _,_=>trivial|.map WJ,_=>trivial|.nilFunc,_=>trivial|.nilIface,_=>trivial|.agg ⟨x⟩,h=>by rw[Flat];exact Ad (by rw[j4]at h;exact h)|.tuple ⟨x⟩,h=>by rw[Flat];exact Ad (by rw[j4]at h;exact h)|.pointer (WH _),h=>by simp[j4]at h|.slice (WH _) _ _,h=>by simp[j4]at h|.map (WH _),h=>by simp[j4]at h|.chan _,h=>by simp[j4]at h|.func _ _ _,h=>by simp[j4]at h|.iface _ _,h=>by simp[j4]at h|.float _ _,h=>by simp[j4]at h|.complex _ _ _,h=>by simp[j4]at h theorem Ad:∀{v:List WL},xA v=WM->ko v|[],_=>by rw[ko];trivial|v::vs,h=>by rw[xA,WK]at h;rw[ko];exact⟨ye h.1,Ad h.2⟩end
structure oY where
 fn:Nat->Bool
 cU:Bool
 gs:Nat
 bM:WX
structure oY.Fits(B:oY)(ok:ak):Prop where
 fn:∀f,B.fn f=WM->ok.fn f
 cU:B.cU=WM->ok.cU
 gs:B.gs=ok.gs
 bM:B.bM=ok.bM
section
variable(B:oY)(P)
def eV:Xa->Bool|.tmp _=>WM|.const v=>j4 v|.global g=>B.cU&&decide (g<B.gs)|.func f=>B.fn f
def tH(t:WX):Bool:=match(P.info? t).bind (·.zero)with|WH v=>j4 v|WJ=>WM
def tE(t:WX):Bool:=match P.underlying t with|WH (.slice e)=>tH P e|_=>WM
def xC(t:WX):Bool:=match P.underlying t with|WH (.int _)=>WM|_=>WO
def vV:Nat->WX->Bool|0,_=>WO|d+1,t=>match P.underlying t with|WH (.int _)=>WM|WH .bool=>WM|WH (.array _ e)=>vV d e|_=>WO
def Bv(t:WX):Bool:=match P.underlying t with|WH (.pointer _)|WH (.slice _)|WH (.map _ _)|WJ=>WM|_=>WO
def we:Xa->Bool|.const (.pointer WJ)|.const (.slice WJ _ _)|.const (.map WJ)|.const .nilFunc|.const .nilIface=>WM|_=>WO
def vI(t:WX):Bool:=match P.underlying t with|WH (.map k e)=>xC P k&&tH P e|_=>WM
def zf(t:WX):Bool:=match P.underlying t with|WH (.array _ _)|WH (.slice _)|WJ=>WM|_=>WO
def zi(s:WX)(i:Nat):Bool:=match P.underlying s with|WH (.struct fs)=>(match fs[i]? with|WH f=>(match P.info? f.type with|WH d=>d.size !=0|WJ=>WM)|WJ=>WM)|_=>WM
def GU:TypeDesc->Bool|.interface _=>WM|_=>WO
def A6(t:WX):Bool:=(P.eqGuardType P.depth t==WO)&&(match P.underlying t with|WH d=>!GU d|WJ=>WM)
def Bj(b:Builtin)(ts:Array WX):Bool:=match b with|.append=>(match ts[0]? with|WH s=>tE P s|WJ=>WM)&&(match ts[1]? with|WH x=>(match P.underlying x with|WH (.slice _)|WH (.int _)|WJ=>WM|_=>WO)|WJ=>WM)|.cap|.len|.copy=>WM|.clear=>(match ts[0]? with|WH s=>tE P s|WJ=>WM)|.delete=>(match ts[0]? with|WH s=>vI P s|WJ=>WM)|_=>WO
def xB:Option Xa->Bool|WH x=>eV B x|WJ=>WM
def Dr(op:BinOp)(t:WX)(x y:Xa):Bool:=match op with|.add|.sub|.mul|.quo|.rem|.lss|.leq|.gtr|.geq=>xC P t|.eql|.neq=>A6 P t&&(vV P 5 t||(Bv P t&&(we x||we y)))|_=>WO
def sr(o:Xv):Bool:=match o.op with|.move x|.assign x|.box _ x|.load _ x|.nilCheck x|.extract x _=>eV B x|.panic _=>WM|.makeInterface t (.const v)=>(t !=B.bM)&&j4 v|.pick c a b=>eV B c&&eV B a&&eV B b|.alloc t=>tH P t|.build t ps=>tH P t&&ps.toList.all λp=>eV B p.2|.buildSlice t _ ps=>tE P t&&ps.toList.all λp=>eV B p.2|.store _ a x|.indexAddr _ a x=>eV B a&&eV B x|.binOp op t x y _=>eV B x&&eV B y&&Dr P op t x y|.unOp .not _ x|.unOp .neg _ x=>eV B x|.makeFunc (.func f) first d=>B.fn f&&first.toList.all (eV B)&&d.toList.all (eV B)|.makeMap _ WJ=>WM|.makeSlice t l c=>tE P t&&eV B l&&eV B c|.slice t x lo g e=>zf P t&&eV B x&&xB B lo&&xB B g&&xB B e|.fieldAddr s x i=>zi P s i&&eV B x|.lookup t x k _=>vI P t&&eV B x&&eV B k|.mapUpdate t m k v|.insert t m k v=>vI P t&&eV B m&&eV B k&&eV B v|.call c=>c.args.toList.all (eV B)&&(match c.callee with|.value f=>eV B f|.builtin b=>Bj P b c.argTypes|.invoke _ _=>WO)|_=>WO
def cD:XB->Bool|.skip|.exit _|.ret|.refuse _=>WM|.region _ ops _=>ops.toList.all (sr P B)|.seq a b=>cD a&&cD b|.cond c a b=>eV B c&&cD a&&cD b|.block _ c|.loop c=>cD c|_=>WO
end
section
variable{B:oY}(H:B.Fits ok)
include H
theorem dM{x:Xa}(h:eV B x=WM):cj ok x:=by cases x with|tmp t=>trivial|const v=>exact ye h|global g=>simp only[eV,WK,decide_eq_true_eq]at h;exact⟨H.cU h.1,by rw[<-H.gs];exact h.2⟩|func f=>exact H.fn f h
theorem zJ{l:Array Xa}(h:l.toList.all (eV B)=WM):∀x∈l,cj ok x:=λx a=>dM H (WZ.1 h x (by simpa using a))
theorem Cl{l:Array (Nat×Xa)}(h:l.toList.all (λp=>eV B p.2)=WM):∀p∈l,cj ok p.2:=λx a=>dM H (by simpa using WZ.1 h x (by simpa using a))
theorem zL{o:Option Xa}(h:xB B o=WM):∀y,o=WH y->cj ok y:=by rintro y rfl;exact dM H h
omit H
theorem xf{t:WX}(h:tH P t=WM):ZF P t:=by intro d v a b;simp only[tH,a,Option.bind_some,b]at h;exact ye h
theorem xN{t:WX}(h:tE P t=WM):ZE P t:=by intro e d v b a c;simp only[tE,b]at h;exact xf h d v a c
theorem Cb{t:WX}(h:xC P t=WM):kC P t:=by
 unfold xC at h;split at h;·rename_i k e;exact⟨k,e⟩
 ·cases h
theorem G5:∀{d:Nat}{t:WX},vV P d t=WM->qc P d t|0,t,h=>by cases h|d+1,t,h=>by unfold vV at h;unfold qc;split at h;(·rename_i k e;exact .inl ⟨k,e⟩);(·rename_i e;exact .inr (.inl e));(·rename_i n e a;exact .inr (.inr ⟨n,e,a,G5 h⟩));·cases h
theorem U9{t:WX}(h:Bv P t=WM):vp P t:=by
 intro d hd;simp only[Bv,hd]at h;split at h;·rename_i e;cases e;exact .inl ⟨_,rfl⟩
 ·rename_i e;cases e;exact .inr (.inl ⟨_,rfl⟩)
 ·rename_i e;cases e;exact .inr (.inr ⟨_,_,rfl⟩)
 ·rename_i e;cases e
 ·cases h
theorem GC{x:Xa}(h:we x=WM):wR x:=by unfold we at h;split at h<;>first|trivial|cases h
theorem xl{t:WX}(h:vI P t=WM):rl P t:=by
 unfold vI at h;refine⟨λk e a=>?_,λk e d v a=>?_⟩<;>(simp only[a,WK]at h);·exact Cb h.1
 ·exact xf h.2 d v
theorem QN{t:WX}(h:zf P t=WM):AZ P t:=by
 intro d hd;simp only[zf,hd]at h;split at h;·rename_i e;cases e;exact .inl ⟨_,_,rfl⟩
 ·rename_i e;cases e;exact .inr ⟨_,rfl⟩
 ·rename_i e;cases e
 ·cases h
theorem H6{s:WX}{i:Nat}(h:zi P s i=WM):Dg P s i:=by intro fs f d a c b;simp only[zi,a,c,b]at h;simpa using h
theorem SH{op:BinOp}{t:WX}(h:A6 P t=WM):BF P op t:=by intro _;simp only[A6,WK,beq_iff_eq]at h;refine⟨h.1,λd hd a e=>?_⟩;rw[hd,e]at h;simp[GU]at h
theorem Tp{b:Builtin}{ts:Array WX}(h:Bj P b ts=WM):xc P b ts:=by
 unfold Bj at h;unfold xc;split at h;·simp only[WK]at h;refine⟨λs hs=>?_,λx d a hd=>?_⟩;(·have:=h.1;rw[hs]at this;exact xN this);·have:=h.2;rw[a]at this;simp only[hd]at this;split at this;(·rename_i e;cases e;exact .inl ⟨_,rfl⟩);(·rename_i e;cases e;exact .inr ⟨_,rfl⟩);(·rename_i e;cases e);·cases this
 ·trivial
 ·trivial
 ·trivial
 ·intro s hs;rw[hs]at h;exact xN h
 ·intro s hs;rw[hs]at h;exact xl h
 ·cases h
include H
theorem zO{o:Xv}(h:sr P B o=WM):ij ok P o:=by unfold sr at h;unfold ij;generalize o.op=op at h⊢;cases op with|move x=>exact dM H h|assign x=>exact dM H h|box t x=>exact dM H h|load t x=>exact dM H h|nilCheck x=>exact dM H h|extract x i=>exact dM H h|panic x=>trivial|makeInterface t x=>(cases x with|const v=>simp only[WK,bne_iff_ne]at h;exact⟨by rw[<-H.bM];exact h.1,_,rfl,ye h.2⟩|_=>cases h)|pick c a b=>simp only[WK]at h;exact⟨dM H h.1.1,dM H h.1.2,dM H h.2⟩|alloc t=>exact xf h|build t ps=>simp only[WK]at h;exact⟨xf h.1,Cl H h.2⟩|buildSlice t n ps=>simp only[WK]at h;exact⟨xN h.1,Cl H h.2⟩|store t a x=>simp only[WK]at h;exact⟨dM H h.1,dM H h.2⟩|indexAddr t a x=>simp only[WK]at h;exact⟨dM H h.1,dM H h.2⟩|binOp op t x y A=>simp only[WK]at h;obtain⟨⟨s,d⟩,g⟩:=h;refine⟨dM H s,dM H d,?_⟩;unfold Dr at g;unfold xV;(cases op<;>first|(cases g;done)|exact⟨λe=>(by simp at e),WO,Cb g,λe=>by cases e⟩|skip);all_goals simp only[WK,Bool.or_eq_true]at g;refine⟨SH g.1,?_⟩;rcases g.2 with p|⟨p,u⟩;(·exact⟨WO,.inl ⟨5,by omega,G5 p⟩,λe=>by cases e⟩);·exact⟨WM,.inr ⟨U9 p,rfl⟩,λ_=>u.imp GC GC⟩|unOp op t x=>(cases op<;>first|(cases h;done)|exact⟨.inl rfl,dM H h⟩|exact⟨.inr rfl,dM H h⟩)|makeFunc fn first j=>(cases fn with|func f=>simp only[WK]at h;exact⟨⟨f,rfl,H.fn f h.1.1⟩,zJ H h.1.2,zJ H h.2⟩|_=>cases h)|makeMap t r=>(cases r with|none=>rfl|some _=>cases h)|makeSlice t l c=>simp only[WK]at h;exact⟨xN h.1.1,dM H h.1.2,dM H h.2⟩|slice t x lo z w=>simp only[WK]at h;exact⟨QN h.1.1.1.1,dM H h.1.1.1.2,zL H h.1.1.2,zL H h.1.2,zL H h.2⟩|fieldAddr t x i=>simp only[WK]at h;exact⟨H6 h.1,dM H h.2⟩|lookup t x k c=>simp only[WK]at h;exact⟨xl h.1.1,dM H h.1.2,dM H h.2⟩|mapUpdate t m k v=>simp only[WK]at h;exact⟨xl h.1.1.1,dM H h.1.1.2,dM H h.1.2,dM H h.2⟩|insert t m k v=>simp only[WK]at h;exact⟨xl h.1.1.1,dM H h.1.1.2,dM H h.1.2,dM H h.2⟩|call c=>simp only[WK]at h;refine⟨zJ H h.1,?_⟩;obtain⟨s,d⟩:=h;(cases q:c.callee with|value f=>rw[q]at d;exact dM H d|builtin b=>rw[q]at d;exact Tp d|invoke _ _=>rw[q]at d;cases d)|_=>cases h
theorem iz:∀{c:XB},cD P B c=WM->gQ ok P c|.skip,_=>trivial|.exit _,_=>trivial|.ret,_=>trivial|.refuse _,_=>trivial|.region _ ops _,h=>λo d=>zO H (WZ.1 (by rw[cD]at h;exact h) o (by simpa using d))|.seq a b,h=>by rw[cD,WK]at h;exact⟨iz h.1,iz h.2⟩|.cond c a b,h=>by rw[cD,WK,WK]at h;exact⟨dM H h.1.1,iz h.1.2,iz h.2⟩|.block _ c,h=>by rw[cD]at h;exact iz (c:=c) h|.loop c,h=>by rw[cD]at h;exact iz (c:=c) h
end
end
section
open Go.Conc Go.ConcN Go.RowKit Go.Conc.Lib Go.ConcR.Gen Go.ConcN.Gen
open Go.ConcR(KK wgBlock WgAt stA smA rd wr mk Payload DC0)
variable[Payload]{L:WgLink}{P:Xm}
theorem add1(H:WgLib P L){Wg:Nat}{Stop:Xk->WQ->Prop}{i:WT}{m:Act}{a:Array Xv}{n:Nat}{c:List Nat}{h:List Xw}{cs:List WT}{mT:Nat}(s:∀w,Xj L.tWg Wg w->Goes P WM (RA L.tWg Wg) DC0 Stop mT (G (i.at (m.put ((a[n]?).bind (·.dst)) (.tuple #[])) (.inRegion a c::h)) cs) w)(w:WQ)(hF:Xj L.tWg Wg w):Goes P WM (RA L.tWg Wg) DC0 (iS P .disable (dI P L.tWg Wg (Hf P L.tWg Wg (dI P L.tWg Wg λg w=>iS P (.read (smA Wg)) (dI P L.tWg Wg (iS P .enable (dI P L.tWg Wg Stop))) g w\/iS P .enable (dI P L.tWg Wg Stop) g w)))) 12 (G (WY P L.add #[.pointer (WH ⟨Wg,0,WJ⟩),.int .i64 1] .normal) (i.at m (.inRegion a (n::c)::h)::cs)) w:=by
 have e:WY P L.add #[.pointer (WH ⟨Wg,0,WJ⟩),.int .i64 1] .normal=(base L.add).at ⟨#[.pointer (WH ⟨Wg,0,WJ⟩),.int .i64 1]++Xh ((addFn L).ntmps-2) W0,[]⟩ [.code (body_add L)]:=by simp[WY,Frame.at,H.f_add,body_add,base];rfl
 rw[e];lib_facts;simp only[body_add,addFn,Xl];walk_nrm;repeat(first|u_c stepG_ret' aj hF|u_c stepG_end aj hF|u_c stepG_seq aj hF|u_c stepG_region_end aj hF|u_c stepG_skip aj hF|u_reg aj hF|u_cond WM aj hF|u_cond WO aj hF|u_skip aj hF|u_defer aj hF|u_bub aj hF|u_op aj hF)
 refine WV (λt l=>?_);replace hF:=aj hF l;clear l;refine⟨rfl,_,stepG_mark0 .disable (by simp) rfl rfl (by k_ne) rfl H.f_disable (x_disable_n L) (x_disable_b L) (x_disable_x L) (x_disable_f L),60,?_⟩;walk_nrm;repeat(first|u_c stepG_ret' aj hF|u_c stepG_end aj hF|u_c stepG_seq aj hF|u_c stepG_region_end aj hF|u_c stepG_skip aj hF|u_reg aj hF|u_cond WM aj hF|u_cond WO aj hF|u_skip aj hF|u_defer aj hF|u_bub aj hF|u_op aj hF)
 u_call H.f_uAdd(nm_uAdd L)uAddFn aj hF;repeat(first|u_c stepG_ret' aj hF|u_c stepG_end aj hF|u_c stepG_seq aj hF|u_c stepG_region_end aj hF|u_c stepG_skip aj hF|u_reg aj hF|u_cond WM aj hF|u_cond WO aj hF|u_skip aj hF|u_defer aj hF|u_bub aj hF|u_op aj hF)
 refine WV (λd j=>?_);replace hF:=aj hF j;clear j;refine⟨rfl,λv D f=>?_⟩;rcases Xo v with rfl|y;·(replace f:WgAt L.tWg Wg d 0 0:=by simpa using f);(have z:(((0:Nat):Int)+1)*KK=KK:=by simp);rw[z];(have e0:IntKind.u64.wrap (0+4294967296)=KK:=by decide);refine⟨_,(stepG_add_atomic rfl rfl (by k_ne) rfl H.f_addU64 (x_addU64_n L) (x_addU64_b L) (x_addU64_x L) .u64 (x_addU64_f L) rfl rfl f.cellSt (f.thaw 0)).trans (by rw[e0];rfl),110,?_⟩;replace hF:Xj L.tWg Wg (d.setCell (stA Wg) (.int .u64 KK)):=⟨_,_,f.setSt _⟩;clear f;simp only[KK]at hF⊢;walk_nrm;(repeat(first|u_c stepG_ret' aj hF|u_c stepG_end aj hF|u_c stepG_seq aj hF|u_c stepG_region_end aj hF|u_c stepG_skip aj hF|u_reg aj hF|u_cond WM aj hF|u_cond WO aj hF|u_skip aj hF|u_defer aj hF|u_bub aj hF|u_op aj hF));u_leave1 H.f_uAdd aj hF;(repeat(first|u_c stepG_ret' aj hF|u_c stepG_end aj hF|u_c stepG_seq aj hF|u_c stepG_region_end aj hF|u_c stepG_skip aj hF|u_reg aj hF|u_cond WM aj hF|u_cond WO aj hF|u_skip aj hF|u_defer aj hF|u_bub aj hF|u_op aj hF));u_conv H.underlying_tPU32 H.room_tU32(WgLive.cell1 hF).choose_spec aj hF;refine WV (λu k=>?_);replace hF:=aj hF k;clear k;refine .inl ⟨rfl,_,stepG_markAt .read (by simp) rfl rfl (by k_ne) rfl H.f_raceRead (x_raceRead_n L) (x_raceRead_b L) (x_raceRead_x L) (x_raceRead_f L) (ad:=⟨Wg,1,WJ⟩) (by simp[W3]),60,?_⟩;walk_nrm;(repeat(first|u_c stepG_ret' aj hF|u_c stepG_end aj hF|u_c stepG_seq aj hF|u_c stepG_region_end aj hF|u_c stepG_skip aj hF|u_reg aj hF|u_cond WM aj hF|u_cond WO aj hF|u_skip aj hF|u_defer aj hF|u_bub aj hF|u_op aj hF));refine WV (λq b=>?_);replace hF:=aj hF b;clear b;refine⟨rfl,_,stepG_unwind_entry (v:=.tuple #[]) (evs:=#[mk .enable]) rfl H.f_enable (x_enable_n L) (x_enable_b L) (x_enable_x L) (x_enable_f L) (by simp[Extern.Race.none_]) (by simp[mk]) (by simp[mk]),mT+1,?_⟩;u_leave0 H.f_add aj hF;exact s _ hF
 ·obtain⟨V,r⟩:∃V:Int,V=(v:Int)+1:=⟨_,rfl⟩;obtain⟨S,o⟩:∃S:Int,S=V*KK:=⟨_,rfl⟩;(have x:IntKind.u64.wrap ((v:Int)*KK+4294967296)=S:=by rw[IntKind.wrap_u64,o,r];simp only[KK];omega);rw[<-r,<-o];have p:Xj L.tWg Wg (d.setCell (stA Wg) (.int .u64 S)):=⟨_,_,f.setSt _⟩;(have E:S/4294967296=V:=by rw[o];simp only[KK];omega);(have b1:bits .and .u64 S 2147483648=0:=by rw[o,r];have:=st_flag (v+1) 0 (by omega) (by omega);simpa[KK]using this);(have b2:bits .and .u64 S 2147483647=0:=by rw[o,r];have:=st_waiters (v+1) 0 (by omega) (by omega);simpa[KK]using this);(have c1:IntKind.i32.wrap V=V:=by rw[IntKind.wrap_i32];omega);(have B:1<V:=by omega);(have A:V<2147483648:=by omega);(have q1:(V==1)=WO:=by simp;omega);have q2:decide (V=1)=WO:=decide_eq_false (by omega);have C:decide (V<0)=WO:=decide_eq_false (by omega);have I:decide (0<V)=WM:=decide_eq_true (by omega);(have J:(V==0)=WO:=by simp;omega);have F:decide (V=0)=WO:=decide_eq_false (by omega);refine⟨_,(stepG_add_atomic rfl rfl (by k_ne) rfl H.f_addU64 (x_addU64_n L) (x_addU64_b L) (x_addU64_x L) .u64 (x_addU64_f L) rfl rfl f.cellSt (f.thaw 0)).trans (by rw[x];rfl),110,?_⟩;replace hF:=p;clear f o r x p;walk_nrm;(repeat(first|u_c stepG_ret' aj hF|u_c stepG_end aj hF|u_c stepG_seq aj hF|u_c stepG_region_end aj hF|u_c stepG_skip aj hF|u_reg aj hF|u_cond WM aj hF|u_cond WO aj hF|u_skip aj hF|u_defer aj hF|u_bub aj hF|u_op aj hF));u_leave1 H.f_uAdd aj hF;(repeat(first|(first|u_c stepG_ret' aj hF|u_c stepG_end aj hF|u_c stepG_seq aj hF|u_c stepG_region_end aj hF|u_c stepG_skip aj hF|u_reg aj hF|u_cond WM aj hF|u_cond WO aj hF|u_skip aj hF|u_defer aj hF|u_bub aj hF|u_op aj hF)|u_cnd WO aj hF|u_cnd WM aj hF));refine WV (λq b=>?_);replace hF:=aj hF b;clear b;refine .inr ⟨rfl,_,stepG_unwind_entry (v:=.tuple #[]) (evs:=#[mk .enable]) rfl H.f_enable (x_enable_n L) (x_enable_b L) (x_enable_x L) (x_enable_f L) (by simp[Extern.Race.none_]) (by simp[mk]) (by simp[mk]),mT+1,?_⟩;u_leave0 H.f_add aj hF;exact s _ hF
end
section
open Go.Conc Go.ConcN Go.RowKit Go.Conc.Lib Go.ConcR.Gen Go.ConcN.Gen
open Go.ConcR(KK wgBlock WgAt stA smA rd wr mk Payload DC0)
variable[Payload]{L:WgLink}{P:Xm}
section
variable{Wg:Nat}{Stop:Xk->WQ->Prop}{b₀:WT}{a₀:Act}{ops₀:Array Xv}{i₀:Nat}{rest₀:List Nat}{k₀:List Xw}{cs:List WT}{mT:Nat}
theorem MG(H:WgLib P L)(x:∀w,Xj L.tWg Wg w->Goes P WM (RA L.tWg Wg) DC0 Stop mT (G (b₀.at (a₀.put ((ops₀[i₀]?).bind (·.dst)) (.tuple #[])) (.inRegion ops₀ rest₀::k₀)) cs) w)(g:Xk)(w:WQ)(h:lM L Wg (b₀.at a₀ (.inRegion ops₀ (i₀::rest₀)::k₀)) cs g w):dI P L.tWg Wg (ym P L.tWg Wg (lM L Wg (b₀.at a₀ (.inRegion ops₀ (i₀::rest₀)::k₀)) cs) Stop) g w:=by
 lib_facts;obtain⟨T,rfl,s,t0,_,hF⟩:=h;obtain⟨v0,v1,v2,v3,v4,v5,v6,v7,v8,v9,a7,aU,ap,a0,aa,F,aS,aW,aK,z,aY,aM,W,ak,Q,aB,aD,a6,af,E,aP,ao,U,N,ac,al,I,X,aF,aR,aq,aZ,ai,aX,J,a9,M,aT,Z,V,aC,an,a5,aA,aN,aV,ar,aI,aE,aQ,a3,am,ah,D,a8,O,ax,aG,av,R,aL,ay,a2,aJ,Y,B,ae,aO,K,aH,az,a4,C,aw,rfl⟩:=array84 T s;simp only[Xc,W8,W4]at t0;subst t0;refine⟨40,?_⟩;simp only[L7,body_wait,waitFn,Xl];u_c stepG_block aj hF;u_c stepG_seq aj hF;u_reg aj hF;iterate 3 u_op aj hF
 u_call H.f_uLoad(nm_uLoad L)uLoadFn aj hF;u_c stepG_seq aj hF;u_reg aj hF;u_op aj hF;u_c stepG_region_end aj hF;u_c stepG_seq aj hF;u_reg aj hF;iterate 3 u_op aj hF
 refine WV (λp k=>?_);replace hF:=aj hF k;clear k;refine⟨rfl,λv hv a=>?_⟩;rcases Xo v with rfl|au;·(replace a:WgAt L.tWg Wg p 0 0:=by simpa using a);refine⟨_,stepG_load_atomic (v:=0) rfl rfl (by k_ne) rfl H.f_loadU64 (x_loadU64_n L) (x_loadU64_b L) (x_loadU64_x L) .u64 (x_loadU64_f L) rfl a.cellSt,λ_=>⟨60,?_⟩,λh=>absurd rfl h⟩;clear a;walk_nrm;u_op aj hF;u_c stepG_region_end aj hF;u_c stepG_ret' aj hF;u_leave1 H.f_uLoad aj hF;u_op aj hF;u_c stepG_region_end aj hF;u_c stepG_seq aj hF;u_reg aj hF;(iterate 4 u_op aj hF);u_c stepG_region_end aj hF;u_c stepG_seq aj hF;u_reg aj hF;(iterate 4 u_op aj hF);u_c stepG_region_end aj hF;u_c stepG_seq aj hF;u_c stepG_seq aj hF;u_reg aj hF;(iterate 2 u_op aj hF);u_c stepG_region_end aj hF;u_cond WM aj hF;u_c stepG_seq aj hF;u_cond WM aj hF;u_c stepG_seq aj hF;u_reg aj hF;refine WV (λr b=>?_);replace hF:=aj hF b;clear b;refine⟨rfl,_,stepG_mark0 .enable (by simp) rfl rfl (by k_ne) rfl H.f_enable (x_enable_n L) (x_enable_b L) (x_enable_x L) (x_enable_f L),20,?_⟩;walk_nrm;u_c stepG_region_end aj hF;u_reg aj hF;u_op aj hF;u_conv H.underlying_tWgP H.room_tWg(WgLive.cell0 hF).choose_spec aj hF;refine WV (λq c=>?_);replace hF:=aj hF c;clear c;refine⟨rfl,_,stepG_markAt .acquire (by simp) rfl rfl (by k_ne) rfl H.f_acquire (x_acquire_n L) (x_acquire_b L) (x_acquire_x L) (x_acquire_f L) (by simp[W3,stA]),⟨mT+30,?_⟩⟩;walk_nrm;u_c stepG_region_end aj hF;u_c stepG_seq aj hF;u_c stepG_seq aj hF;u_reg aj hF;(iterate 8 u_op aj hF);u_skip aj hF;u_skip aj hF;u_op aj hF;u_c stepG_region_end aj hF;u_cond WO aj hF;u_c stepG_skip aj hF;u_c stepG_ret' aj hF;u_leave0 H.f_wait aj hF;exact yS (x _ hF) (by omega)
 ·obtain⟨S,m⟩:∃S:Int,(v:Int)*KK=S:=⟨_,rfl⟩;(have a1:S/4294967296=(v:Int):=by rw[<-m];simp only[KK];omega);(have b1:bits .and .u64 S 2147483648=0:=by rw[<-m];have:=st_flag v 0 (by omega) (by omega);simpa[KK]using this);(have b2:bits .and .u64 S 2147483647=0:=by rw[<-m];have:=st_waiters v 0 (by omega) (by omega);simpa[KK]using this);(have c1:IntKind.i32.wrap (v:Int)=(v:Int):=by rw[IntKind.wrap_i32];omega);(have w1:IntKind.u64.wrap (S+1)=S+1:=by rw[IntKind.wrap_u64,<-m];simp only[KK];omega);have q3:decide ((v:Int)<0)=WO:=decide_eq_false (by omega);have q4:decide (0<(v:Int))=WM:=decide_eq_true (by omega);(have q5:((v:Int)==0)=WO:=by simp;omega);have q6:decide ((v:Int)=0)=WO:=decide_eq_false (by omega);rw[m]at a;refine⟨_,stepG_load_atomic (v:=S) rfl rfl (by k_ne) rfl H.f_loadU64 (x_loadU64_n L) (x_loadU64_b L) (x_loadU64_x L) .u64 (x_loadU64_f L) rfl a.cellSt,λh0=>absurd h0 (by omega),λ_=>⟨80,?_⟩⟩;clear a;walk_nrm;u_op aj hF;u_c stepG_region_end aj hF;u_c stepG_ret' aj hF;u_leave1 H.f_uLoad aj hF;u_op aj hF;u_c stepG_region_end aj hF;u_c stepG_seq aj hF;u_reg aj hF;(iterate 4 u_op aj hF);u_c stepG_region_end aj hF;u_c stepG_seq aj hF;u_reg aj hF;(iterate 4 u_op aj hF);u_c stepG_region_end aj hF;u_c stepG_seq aj hF;u_c stepG_seq aj hF;u_reg aj hF;(iterate 2 u_op aj hF);u_c stepG_region_end aj hF;u_cnd WO aj hF;u_c stepG_skip aj hF;u_c stepG_seq aj hF;u_reg aj hF;(iterate 6 u_op aj hF);u_call H.f_uCas(nm_uCas L)uCasFn aj hF;u_c stepG_seq aj hF;u_reg aj hF;u_op aj hF;u_c stepG_region_end aj hF;u_c stepG_seq aj hF;u_reg aj hF;(iterate 5 u_op aj hF);refine WV (λo i=>?_);replace hF:=aj hF i;clear i;refine⟨rfl,λv' A a=>⟨λe=>?_,λe=>?_⟩⟩;(·subst e;rw[m]at a⊢;refine⟨_,(stepG_cas_hit (v:=S) (n:=S+1) rfl rfl (by k_ne) rfl H.f_casU64 (x_casU64_n L) (x_casU64_b L) (x_casU64_x L) .u64 (x_casU64_f L) rfl rfl rfl a.cellSt (a.thaw 0)).trans (by rfl),70,?_⟩;replace hF:Xj L.tWg Wg (o.setCell (stA Wg) (.int .u64 (S+1))):=⟨_,_,a.setSt _⟩;clear a;walk_nrm;u_op aj hF;u_c stepG_region_end aj hF;u_c stepG_ret' aj hF;u_leave1 H.f_uCas aj hF;u_c stepG_region_end aj hF;u_cond WM aj hF;u_c stepG_seq aj hF;u_c stepG_seq aj hF;u_reg aj hF;(iterate 4 u_op aj hF);u_c stepG_region_end aj hF;u_cond WM aj hF;u_reg aj hF;(iterate 3 u_op aj hF);u_conv H.underlying_tPU32 H.room_tU32(WgLive.cell1 hF).choose_spec aj hF;refine WV (λu j=>?_);replace hF:=aj hF j;clear j;refine⟨rfl,_,stepG_markAt .write (by simp) rfl rfl (by k_ne) rfl H.f_raceWrite (x_raceWrite_n L) (x_raceWrite_b L) (x_raceWrite_x L) (x_raceWrite_f L) (ad:=⟨Wg,1,WJ⟩) (by simp[W3]),60,?_⟩;walk_nrm;u_c stepG_region_end aj hF;u_c stepG_seq aj hF;u_reg aj hF;u_op aj hF;u_c stepG_region_end aj hF;u_c stepG_seq aj hF;u_c stepG_seq aj hF;u_reg aj hF;(iterate 4 u_op aj hF);u_skip aj hF;u_op aj hF;u_c stepG_region_end aj hF;u_cond WO aj hF;u_c stepG_skip aj hF;u_c stepG_seq aj hF;u_reg aj hF;(iterate 4 u_op aj hF);refine WV (λf d=>?_);replace hF:=aj hF d;clear d;refine⟨rfl,rfl,λ⟨st,a⟩=>stepG_semacquire_wait rfl rfl rfl H.f_semacquire (x_semacquire_n L) (x_semacquire_b L) (x_semacquire_x L) (x_semacquire_f L) (by simp[W3,smA]) a.cellSm,λt=>?_⟩;refine⟨_,(stepG_semacquire (n:=1) rfl rfl (by k_ne) rfl H.f_semacquire (x_semacquire_n L) (x_semacquire_b L) (x_semacquire_x L) (x_semacquire_f L) (by simp[W3,smA]) t.cellSm (by k_ne) (t.thaw 1)).trans (by rfl),40,?_⟩;replace hF:Xj L.tWg Wg (f.setCell (smA Wg) (.int .u32 0)):=⟨_,_,t.setSm 0⟩;clear t;walk_nrm;u_c stepG_region_end aj hF;u_c stepG_seq aj hF;u_reg aj hF;(iterate 3 u_op aj hF);u_call H.f_uLoad(nm_uLoad L)uLoadFn aj hF;u_c stepG_seq aj hF;u_reg aj hF;u_op aj hF;u_c stepG_region_end aj hF;u_c stepG_seq aj hF;u_reg aj hF;(iterate 3 u_op aj hF);refine WV (λy l=>?_);replace hF:=aj hF l;clear l;refine⟨rfl,λa=>⟨_,stepG_load_atomic (v:=0) rfl rfl (by k_ne) rfl H.f_loadU64 (x_loadU64_n L) (x_loadU64_b L) (x_loadU64_x L) .u64 (x_loadU64_f L) rfl a.cellSt,40,?_⟩⟩;clear a;walk_nrm;u_op aj hF;u_c stepG_region_end aj hF;u_c stepG_ret' aj hF;u_leave1 H.f_uLoad aj hF;(iterate 2 u_op aj hF);u_c stepG_region_end aj hF;u_c stepG_seq aj hF;u_cond WM aj hF;u_c stepG_seq aj hF;u_reg aj hF;refine WV (λr b=>?_);replace hF:=aj hF b;clear b;refine⟨rfl,_,stepG_mark0 .enable (by simp) rfl rfl (by k_ne) rfl H.f_enable (x_enable_n L) (x_enable_b L) (x_enable_x L) (x_enable_f L),20,?_⟩;walk_nrm;u_c stepG_region_end aj hF;u_reg aj hF;u_op aj hF;u_conv H.underlying_tWgP H.room_tWg(WgLive.cell0 hF).choose_spec aj hF;refine WV (λq c=>?_);replace hF:=aj hF c;clear c;refine⟨rfl,_,stepG_markAt .acquire (by simp) rfl rfl (by k_ne) rfl H.f_acquire (x_acquire_n L) (x_acquire_b L) (x_acquire_x L) (x_acquire_f L) (by simp[W3,stA]),⟨mT+20,?_⟩⟩;walk_nrm;u_c stepG_region_end aj hF;u_c stepG_seq aj hF;u_c stepG_seq aj hF;u_reg aj hF;u_op aj hF;u_c stepG_region_end aj hF;u_cond WO aj hF;u_c stepG_skip aj hF;u_c stepG_ret' aj hF;u_leave0 H.f_wait aj hF;exact yS (x _ hF) (by omega));·refine⟨_,stepG_cas_miss (v:=(v':Int)*KK) (old:=S) (n:=S+1) rfl rfl (by k_ne) rfl H.f_casU64 (x_casU64_n L) (x_casU64_b L) (x_casU64_x L) .u64 (x_casU64_f L) rfl rfl rfl a.cellSt (a.thaw 0) (by rw[<-m];simp only[KK];omega),30,?_⟩;clear a;walk_nrm;u_op aj hF;u_c stepG_region_end aj hF;u_c stepG_ret' aj hF;u_leave1 H.f_uCas aj hF;u_c stepG_region_end aj hF;u_cond WO aj hF;u_c stepG_skip aj hF;u_c stepG_inBlock aj hF;u_c stepG_inLoop aj hF;refine WV (λf d=>?_);replace hF:=aj hF d;exact⟨_,rfl,by simp,by simp,trivial,hF⟩
theorem Tj(H:WgLib P L)(w:WQ)(hF:Xj L.tWg Wg w):Goes P WM (RA L.tWg Wg) DC0 (iS P .disable (dI P L.tWg Wg (lM L Wg (b₀.at a₀ (.inRegion ops₀ (i₀::rest₀)::k₀)) cs))) 10 (G (WY P L.wait #[.pointer (WH ⟨Wg,0,WJ⟩)] .normal) (b₀.at a₀ (.inRegion ops₀ (i₀::rest₀)::k₀)::cs)) w:=by
 have e:WY P L.wait #[.pointer (WH ⟨Wg,0,WJ⟩)] .normal=(base L.wait).at ⟨#[.pointer (WH ⟨Wg,0,WJ⟩)]++Xh ((waitFn L).ntmps-1) W0,[]⟩ [.code (body_wait L)]:=by simp[WY,Frame.at,H.f_wait,body_wait,base];rfl
 rw[e];lib_facts;simp only[body_wait,waitFn,Xl];walk_nrm;u_c stepG_seq aj hF;u_cond WM aj hF;u_reg aj hF;refine WV (λc a=>?_);replace hF:=aj hF a;clear a;refine⟨rfl,_,stepG_mark0 .disable (by simp) rfl rfl (by k_ne) rfl H.f_disable (x_disable_n L) (x_disable_b L) (x_disable_x L) (x_disable_f L),10,?_⟩;walk_nrm;u_c stepG_region_end aj hF;u_c stepG_block aj hF;u_c stepG_loop aj hF;exact WV (λd b=>⟨_,rfl,by simp,by simp,trivial,aj hF b⟩)
end
end
end Go.Rel
namespace Go.Proofs.YtldeiiffabfmeaaGreatDoor
section
open Go.Conc Go.ConcN Go.RowKit Go.Conc.Lib Go.ConcR.Gen Go.ConcN.Gen Go.Rel
open Go.ConcR(KK wgBlock WgAt stA smA rd wr mk Payload DC0 ofEvent_cell)
structure me(ok:ak):Prop where
 fits:Fits ok WG
 dF:gB ok WG
 cX:¬ok.cX
 none:z8 ok
 cU:ok.cU
 gs:ok.gs=1
 bM:ok.bM=1000000
theorem blank{ok:ak}(h:ok.bM=1000000):oY.Fits ⟨λ_=>WO,WO,ok.gs,1000000⟩ ok:=⟨(λ_ h=>by cases h),(λh=>by cases h),rfl,h.symm⟩
theorem F4(g:Nat):Go.Rel.cD WG ⟨λ_=>WO,WO,g,1000000⟩ r0=WM/\Go.Rel.cD WG ⟨λ_=>WO,WO,g,1000000⟩ r1=WM/\Go.Rel.cD WG ⟨λ_=>WO,WO,g,1000000⟩ r2=WM/\Go.Rel.cD WG ⟨λ_=>WO,WO,g,1000000⟩ r3=WM:=⟨by kernel_rfl,by kernel_rfl,by kernel_rfl,by kernel_rfl⟩
theorem wV(g:Nat):Go.Rel.cD WG ⟨λ_=>WO,WO,g,1000000⟩ r4=WM/\Go.Rel.cD WG ⟨λ_=>WO,WO,g,1000000⟩ r5=WM/\Go.Rel.cD WG ⟨λ_=>WO,WO,g,1000000⟩ r8=WM/\Go.Rel.cD WG ⟨λ_=>WO,WO,g,1000000⟩ lP=WM:=⟨by kernel_rfl,by kernel_rfl,by kernel_rfl,by kernel_rfl⟩
def wB(wh:WQ)(pa:Xq)(n:Nat)(M:Array WL):WQ:=((wh.alloc (.cells #[.pointer (WH pa)] 167)).alloc (.cells M 202)).alloc (.cells #[.slice (WH ⟨wh.heap.size+1,0,WJ⟩) n n] 198)
theorem aF{P:Xm}{c:XB}{Q d:Exit->Act->WQ->Prop}{a:Act}{w:WQ}(h:c.wp P Q a w)(f:∀e a w,Q e a w->d e a w):c.wp P d a w:=by intro b k cs;obtain⟨e,a',w',i,g⟩:=h b k cs;exact⟨e,a',w',f _ _ _ i,g⟩
section
variable{ok:ak}
theorem Gk(B0:me ok){c:XB}(j:gQ ok WG c){a a':Act}{wh wh':WQ}(h:∀b d,c.wp WG (λe i w1=>e=.normal/\i=a'/\w1=wh'.re b d) a (wh.re b d)){k:List Xw}{cs:List WT}{S:List WT->WQ->Prop}(hk:Go.Rel.Reach ok WG ((base 109).at a' k::cs) wh' S):Go.Rel.Reach ok WG ((base 109).at a (.code c::k)::cs) wh S:=by have l:=mW (ids:=[]) (Q:=λe i w1=>e=.normal/\i=a'/\∃b d,w1=wh'.re b d) B0.fits B0.dF j (λe a w b d g=>⟨g.1,g.2.1,by obtain⟨n,p,rfl⟩:=g.2.2;exact⟨b,d,rfl⟩⟩) (λe a w g=>by rw[g.1];trivial) (λb d=>aF (h b d) λe a w g=>⟨g.1,g.2.1,b,d,g.2.2⟩);refine(l (base 109) k cs ⟨_,Xb⟩ (by simp)).bind ?_;rintro o w'⟨e,i,f,rfl,⟨rfl,rfl,b,d,rfl⟩,m⟩;cases m;exact hk.re b d
theorem Sd(B0:me ok)(pa:Xq)(ra:Option Xq)(n c:Nat)(g:n<2147483647)(wh:WQ)(cs:List WT):Go.Rel.Reach ok WG (WY WG 109 #[.pointer (WH pa),.slice ra n c] .normal::cs) wh (λh wh'=>∃M:Array WL,M.size=6*n/\(∃a d,wh'=(wB wh pa n M).re a d)/\h=(base 109).at ⟨s2 (.pointer (WH pa)) (.slice ra n c) n wh.heap.size,[]⟩ [.code r2,.code (.seq (.seq r3 (.block 0 (.loop lb))) (.seq r9 (.seq lP .ret)))]::cs):=by
 have C:=F4 ok.gs;have K:=blank B0.bM;obtain⟨M,f,b⟩:=L5 n g;have e:WY WG 109 #[.pointer (WH pa),.slice ra n c] .normal=(base 109).at ⟨s0 (.pointer (WH pa)) (.slice ra n c),[]⟩ [.code kz]:=by simp[WY,Frame.at,Xb,Tryz.f109,base,kz,s0]
 rw[e,T9];refine Go.Rel.Reach.pure B0.fits B0.dF.cE (fr1:=(base 109).at ⟨s0 (.pointer (WH pa)) (.slice ra n c),[]⟩ [.code r0,.code _]) rfl (dw trivial) ?_;refine Gk B0 (iz K C.1) (a':=⟨s1 (.pointer (WH pa)) (.slice ra n c) wh.heap.size,[]⟩) (wh':=wh.alloc (.cells #[.pointer (WH pa)] 167)) (λa d=>H5 pa _ (wh.re a d)) ?_;refine Go.Rel.Reach.pure B0.fits B0.dF.cE (fr1:=(base 109).at ⟨s1 (.pointer (WH pa)) (.slice ra n c) wh.heap.size,[]⟩ [.code r1,.code _]) rfl (dw trivial) ?_;refine Gk B0 (iz K C.2.1) (a':=⟨s2 (.pointer (WH pa)) (.slice ra n c) n wh.heap.size,[]⟩) (wh':=wB wh pa n M) (λa d=>Vp pa ra n c wh.heap.size M b ((wh.alloc (.cells #[.pointer (WH pa)] 167)).re a d) (by show(wh.heap.push _).size=_;simp)) ?_;refine Go.Rel.Reach.pure B0.fits B0.dF.cE (fr1:=(base 109).at ⟨s2 (.pointer (WH pa)) (.slice ra n c) n wh.heap.size,[]⟩ [.code r2,.code _]) rfl (dw trivial) ?_;exact .stop ⟨M,f,⟨_,_,rfl⟩,rfl⟩
end
def kx(ok:ak)(Wg R n:Nat):ak:={ok with tags:=λk=>if k=0 then .pointer (WH ⟨Wg,0,WJ⟩)else .slice (WH ⟨R,0,WJ⟩) n n}
section
variable{ok:ak}{Wg R n:Nat}
theorem ug(B0:me ok):mL ok (kx ok Wg R n):=⟨λ_=>Iff.rfl,⟨B0.cX,B0.cX⟩,rfl,rfl,B0.none⟩
theorem BG(B0:me ok):mL ok ok:=⟨λ_=>Iff.rfl,⟨B0.cX,B0.cX⟩,rfl,rfl,B0.none⟩
theorem qH{P:Xm}:∀{c:XB},gQ ok P c->gQ (kx ok Wg R n) P c|.skip,_=>trivial|.exit _,_=>trivial|.ret,_=>trivial|.refuse _,_=>trivial|.region _ ops _,h=>λo d=>h o d|.seq a b,h=>⟨qH h.1,qH h.2⟩|.cond c a b,h=>⟨h.1,qH h.2.1,qH h.2.2⟩|.block _ c,h=>qH (c:=c) h|.loop c,h=>qH (c:=c) h
theorem Uu(C:gB ok WG):gB (kx ok Wg R n) WG:=⟨C.cE,λf fn c b a d=>qH (C.code f fn c b a d)⟩
theorem Io(F:Fits ok WG):Fits (kx ok Wg R n) WG:=⟨F.gs⟩
end
def dy(wh:WQ)(pa:Xq):WQ:={wh with heap:=(((wh.heap.map ri).push (.cells #[.pointer (WH pa)] 167 (0,2))).push (.cells #[] 202 (0,1))).push (.cells #[.iface 1000000 (.int .i64 (1:Nat))] 198 (0,2))}
def lH(aX:ax)(N pb C:Nat):ax:=λb a=>aX b a\/(b=N/\a=pb)\/(b=N+2/\a=C)
section
variable{wh:WQ}{pa:Xq}
theorem mR:(dy wh pa).heap.size=wh.heap.size+3:=by simp[dy]
theorem qj{b:Nat}(h:b<wh.heap.size):(dy wh pa).heap[b]?=(wh.heap[b]?).map ri:=by simp only[dy];rw[WI,WI,WI,if_neg (by simp;omega),if_neg (by simp;omega),if_neg (by simp;omega),Array.getElem?_map]
theorem uy:(dy wh pa).heap[wh.heap.size]?=WH (.cells #[.pointer (WH pa)] 167 (0,2)):=by simp only[dy];rw[WI,WI,WI,if_neg (by simp;omega),if_neg (by simp),if_pos (by simp)]
theorem Qz:(dy wh pa).heap[wh.heap.size+1]?=WH (.cells #[] 202 (0,1)):=by simp only[dy];rw[WI,WI,if_neg (by simp),if_pos (by simp)]
theorem tO:(dy wh pa).heap[wh.heap.size+2]?=WH (.cells #[.iface 1000000 (.int .i64 (1:Nat))] 198 (0,2)):=by simp only[dy];rw[WI,if_pos (by simp)]
theorem uu{b:Nat}(h:∃x t f,(dy wh pa).heap[b]?=WH (.cells x t f)):cG (dy wh pa) b:=by
 obtain⟨x,t,f,e⟩:=h;have c:b<wh.heap.size+3:=by rw[<-mR (pa:=pa)];exact(WU.1 e).1
 rcases Xr b wh.heap.size with h|h;·rw[qj h]at e;obtain⟨o,d,a⟩:=Xn.1 e;cases o with|cells y u g=>exact⟨y,u,_,by rw[qj h,d];rfl,Xx (Nat.le_max_left ..) (Xt _)⟩|_=>cases a
 ·rcases(show b=wh.heap.size\/b=wh.heap.size+1\/b=wh.heap.size+2 by omega)with rfl|rfl|rfl;(·exact⟨_,_,2,uy,by simp⟩);(·exact⟨#[],202,1,Qz,by simp⟩);·exact⟨_,_,2,tO,by simp⟩
end
theorem JO{ok:ak}{ρ:ax}{o b:Obj}(h:ft ok ρ o b):ft ok ρ (ri o) b:=by cases h with|@cells x x' a t fr fr' f=>refine .cells a t ⟨λi d j=>⟨XC _,?_⟩,λe=>by simp at e⟩;exact Nat.lt_succ_of_lt (Nat.lt_of_lt_of_le (f.Bl i d j).2 (Nat.le_max_right ..))|map a c=>exact .map a c|number g l=>exact .number g l
section
variable{ok:ak}{aX ρ1:ax}{wh w w1:WQ}{pa:Xq}{n Wg C R pb:Nat}{M:Array WL}{τ:Nat->XD->Nat}{d:Nat}
theorem N7{b:Nat}(h:b<wh.heap.size):((wB wh pa n M).re τ d).heap[b]?=wh.heap[b]?:=by show(((wh.heap.push _).push _).push _)[b]?=_;rw[WI,WI,WI,if_neg (by simp;omega),if_neg (by simp;omega),if_neg (by omega)]
theorem Oc:((wB wh pa n M).re τ d).heap[wh.heap.size]?=WH (.cells #[.pointer (WH pa)] 167):=by show(((wh.heap.push _).push _).push _)[_]?=_;rw[WI,WI,WI,if_neg (by simp;omega),if_neg (by simp),if_pos rfl]
theorem Hr:((wB wh pa n M).re τ d).heap[wh.heap.size+1]?=WH (.cells M 202):=by show(((wh.heap.push _).push _).push _)[_]?=_;rw[WI,WI,if_neg (by simp),if_pos (by simp)]
theorem Uh:((wB wh pa n M).re τ d).heap[wh.heap.size+2]?=WH (.cells #[.slice (WH ⟨wh.heap.size+1,0,WJ⟩) n n] 198):=by show(((wh.heap.push _).push _).push _)[_]?=_;rw[WI,if_pos (by simp)]
theorem m7{ok:ak}{ρ:ax}{a:Xq}{b:WL}(h:ar ok ρ (.pointer (WH a)) b):∃a',b=.pointer (WH a')/\bw ρ a a':=by cases h with|ptr h=>exact⟨_,rfl,h⟩
theorem xW{ok:ak}{ρ:ax}{a:Xq}{m k:Nat}{b:WL}(h:ar ok ρ (.slice (WH a) m k) b)(hs:a.spot=WJ:=by rfl):∃a',b=.slice (WH a') m k/\bw ρ a a':=by cases h with|slice h=>exact⟨_,rfl,h⟩|dead a=>cases hs
theorem CL(B0:me ok)(f:bh ok aX wh w)(g:bh ok ρ1 ((wB wh pa n M).re τ d) w1)(h:aX.le ρ1){b e:Nat}(c:aX b e):∃o a,wh.heap[b]?=WH o/\w1.heap[e]?=WH a/\ft ok aX o a:=by obtain⟨o,a,e1,e2,e3⟩:=g.obj (h _ _ c);obtain⟨m,j,i,l,k⟩:=f.obj c;rw[N7 (f.lt c).1,i]at e1;cases e1;exact⟨_,_,i,e2,e3.shrink (BG B0) h g.inj.fn k⟩
theorem Cm(c:aX.le ρ1)(e:ρ1 wh.heap.size pb)(a:ρ1 (wh.heap.size+2) C):(lH aX wh.heap.size pb C).le ρ1:=by
 rintro b f(h|⟨rfl,rfl⟩|⟨rfl,rfl⟩);·exact c _ _ h
 ·exact e
 ·exact a
theorem Ve(B0:me ok)(p:bh ok aX wh w)(f:bh ok ρ1 ((wB wh pa n M).re τ d) w1)(m:aX.le ρ1)(r:ρ1 wh.heap.size pb)(A:ρ1 (wh.heap.size+2) C)(l:∃x,aX pa.block x)(k:w1.heap[C]?=WH (.cells #[.slice (WH ⟨R,0,WJ⟩) n n] 198)):bh (kx ok Wg R n) (lH aX wh.heap.size pb C) (dy wh pa) w1:=by
 have c:=Cm m r A;have j:aX.le (lH aX wh.heap.size pb C):=λb u h=>.inl h;refine⟨⟨λa b=>f.inj.fn (c _ _ a) (c _ _ b),λa b=>f.inj.inj (c _ _ a) (c _ _ b),λa b=>f.inj.cU (c _ _ a) b⟩,⟨?_,f.gs.2⟩,λx=>absurd x B0.cX,?_,f.out⟩;·rw[mR];have:=p.gs.1;show ok.gs<=_;omega
 ·rintro b u(t|⟨rfl,rfl⟩|⟨rfl,rfl⟩);(·obtain⟨o,z,e1,e2,e3⟩:=CL B0 p f m t;exact⟨_,_,by rw[qj (p.lt t).1,e1];rfl,e2,JO (e3.lift (ug B0) j)⟩);(·obtain⟨o,z,e1,e2,e3⟩:=f.obj r;rw[Oc]at e1;cases e1;cases e3 with|@cells _ x' v _ _ fr' y=>obtain rfl:=y.nil rfl;refine⟨_,_,uy,e2,.cells ?_ _ ⟨λi f q=>absurd q (by simp),λe=>by simp at e⟩⟩;obtain⟨x'⟩:=x';cases v with|cons D hs=>cases hs;obtain⟨a',rfl,s⟩:=m7 D;obtain⟨E,g⟩:=l;refine .cons (.ptr ⟨.inl ?_,s.2⟩) .nil;have:=f.inj.fn (m _ _ g) s.1;exact this▸g);·have B:ft (kx ok Wg R n) (lH aX wh.heap.size pb u) (.cells #[.iface 1000000 (.int .i64 (1:Nat))] 198 (0,2)) (.cells #[.slice (WH ⟨R,0,WJ⟩) n n] 198):=.cells (.cons (ar.tag (ok:=kx ok Wg R n) 1 B0.bM.symm rfl trivial) .nil) _ ⟨λi f q=>absurd q (by simp),λe=>by simp at e⟩;exact⟨_,_,tO,k,B⟩
end
def opsOf:XB->Array Xv|.region _ o _=>o|_=>#[]
noncomputable def o2:Xv:=((opsOf r2)[0]?).getD default
theorem Rt:r2=.region 2 (opsOf r2) WO:=rfl
theorem sF:(opsOf r2)[0]?=WH o2/\o2.op=.alloc 224/\o2.dst=WH 6/\o2.guard=WJ/\(opsOf r2).size=1:=⟨rfl,rfl,rfl,rfl,rfl⟩
def gJ:Obj:=.cells #[.int .u64 0,.int .u32 0] 224
theorem Jf(e:Xa->WL)(w:WQ):(execOp e o2).run WG w=.ok (.value (.pointer (WH ⟨w.heap.size,0,WJ⟩))) (w.alloc gJ)/\(execOp e o2).events WG w #[]=#[]:=by
 constructor;·unfold execOp;simp only[sF.2.1];simp[go_sem,gJ]
 ·unfold execOp;simp only[sF.2.1];simp[go_sem]
theorem Qc(f:WT)(hk:f.kind≠.early)(T:Array WL)(D:List Deferred)(ba:List WT)(k:List Xw)(w:WQ):Goes WG WM AtRel (λ_ _ es=>es=#[]) (λg a=>∃d,g=G (f.at ⟨T.setIfInBounds 6 (.pointer (WH ⟨w.heap.size,0,WJ⟩)),D⟩ k) ba/\a=(w.alloc gJ).at d) 3 (G (f.at ⟨T,D⟩ (.code r2::k)) ba) w:=by rw[Rt];refine Xe rfl λa c=>?_;obtain⟨d1,rfl⟩:=c;rw[stepG_region];refine⟨rfl,Xe rfl λm e=>?_⟩;obtain⟨d2,rfl⟩:=e;rw[sF.2.2.2.2];have i:=Jf (⟨T,D⟩:Act).eval ((w.at d1).at d2);show(stepG WG WM (G (f.at ⟨T,D⟩ (.inRegion (opsOf r2) (0::[])::k)) ba) _).goes _;rw[stepG_value sF.1 (by simp[Xg,sF.2.2.2.1]) hk i.1];unfold listed;rw[i.2,seen_none];refine⟨rfl,Xe rfl λj b=>?_⟩;obtain⟨d3,rfl⟩:=b;rw[stepG_region_end];refine⟨rfl,λl h=>?_⟩;obtain⟨d4,rfl⟩:=h;exact⟨d4,by rw[sF.2.2.1];rfl,rfl⟩
def sP(p rd:WL)(n N:Nat):Array WL:=#[p,rd,.pointer (WH ⟨N,0,WJ⟩),W0,.slice WJ 0 0,.pointer (WH ⟨N+2,0,WJ⟩),.iface 1000000 (.int .i64 (0:Nat)),W0,W0,rd,.int .i64 n,.nilFunc,W0,W0,W0,W0,W0,W0,W0,W0,W0,W0,W0,W0]
def uA(aX:ax)(w:WQ)(a:Nat):Prop:=∃b,aX b a/\∃x t f,w.heap[a]?=WH (.cells x t f)
noncomputable def sx:XB:=.seq (.seq r3 (.block 0 (.loop lb))) (.seq r9 (.seq lP .ret))
theorem zw(T:Array WL)(h:T.size=24):∃s y w r u q t v z x p n e d g i f m k a o j b c,T=#[s,y,w,r,u,q,t,v,z,x,p,n,e,d,g,i,f,m,k,a,o,j,b,c]:=by obtain⟨l⟩:=T;match l,h with|[s,y,w,r,u,q,t,v,z,x,p,n,e,d,g,i,f,m,k,a,o,j,b,c],_=>exact⟨s,y,w,r,u,q,t,v,z,x,p,n,e,d,g,i,f,m,k,a,o,j,b,c,rfl⟩
section
variable{ok:ak}{aX ρ1:ax}{wh w w1:WQ}{pa:Xq}{ra:Option Xq}{n c:Nat}{M:Array WL}{τ:Nat->XD->Nat}{d:Nat}{le cs:List WT}{gs gs1:Array Xk}{t t1:Trace}{q q1:Nat->Nat}{Shun Shun1:Loc->Prop}
theorem OU{ok ok1:ak}{P:Xm}{ρ ρ1:ax}(K:mL ok ok1)(j:ρ.le ρ1)(m:∀{a b e},ρ1 a b->ρ1 a e->b=e){l la:List WT}(i:Fs ok1 P ρ1 l la):∀{lb:List WT},Fs ok P ρ l lb->Fs ok P ρ l la:=by induction i with|nil=>intro lb _;exact .nil|cons h f _ k=>intro lb o;cases o with|cons g p gs=>exact .cons {g with fn:=h.fn,todo:=h.todo,tmps:=aP.shrink K j m h.tmps g.tmps,mode:=h.mode,lq:=h.lq,early:=h.early} f (k gs)
theorem bm{ok:ak}{ρ:ax}{v e:WL}{x x':List WL}(h:aP ok ρ (v::x) (e::x')):ar ok ρ v e/\aP ok ρ x x':=by cases h with|cons a b=>exact⟨a,b⟩
theorem kV{ok:ak}{ρ:ax}{T b:Array WL}(h:aG ok ρ T b){k:Nat}{v:WL}(hk:T[k]?=WH v):∃a,b[k]?=WH a/\ar ok ρ v a:=by
 rcases h.get? k with⟨e,_⟩|⟨u,u',e1,e2,e3⟩;·rw[hk]at e;cases e
 ·rw[hk]at e1;cases e1;exact⟨u',e2,e3⟩
theorem Le(B0:me ok)(W:jC ok WG aX le wh gs w t q Shun)(T:mZ aX w.heap.size ρ1 w1.heap.size)(ap:∃x,aX pa.block x)(ay:∀a,ra=WH a->∃x,aX a.block x)(bc:∃fe X,Fs ok WG aX (fe::cs) X)(E:jC ok WG ρ1 ((base 109).at ⟨s2 (.pointer (WH pa)) (.slice ra n c) n wh.heap.size,[]⟩ [.code r2,.code sx]::cs) ((wB wh pa n M).re τ d) gs1 w1 t1 q1 Shun1)(hM:M.size=6*n)(sl:Option (Nat×Nat)):∃(Wg C R pb:Nat)(s:Sn)(ah:Option (Nat×Nat))(f:WT)(ba:List WT),(∃N,runNT WG N (crowd gs1 w1 sl) t1=(.next (crowd s.gs s.w ah),s.t))/\(∀okW RS,bB (kx ok Wg R n) WG (lV Wg C R n gs1.size s.w.heap.size s.w.heap.size s.w (uA aX s.w) Shun1 okW RS) 0 (lH aX wh.heap.size pb C) (dy wh pa) 0 eK s/\Go.Rel.Stat (lV Wg C R n gs1.size s.w.heap.size s.w.heap.size s.w (uA aX s.w) Shun1 okW RS))/\s.gs[0]?=WH (G f ba)/\fa (kx ok Wg R n) WG (lH aX wh.heap.size pb C) ((base 109).at ⟨sP (.pointer (WH pa)) (.slice ra n c) n wh.heap.size,[]⟩ [.code sx]) f/\Plain f/\Fs ok WG aX cs ba/\w.heap.size<=pb/\w.heap.size<=C/\w.heap.size<=R/\w.heap.size<=Wg/\w.heap.size<=s.w.heap.size/\(∀b p,aX b p->∃o o',wh.heap[b]?=WH o/\s.w.heap[p]?=WH o'/\ft ok aX o o')/\aX.le (lH aX wh.heap.size pb C):=by obtain⟨la,af,aM⟩:=E.g0;cases aM with|@cons _ f' hf hp _ ba hs=>simp only[List.headD_cons,List.tail_cons]at af;(have aO:f'=f'.at ⟨f'.tmps,f'.defers⟩ (.code r2::[.code sx]):=by have a2:=hf.todo;have a3:=hf.mode;have a4:=hf.lq;obtain⟨fn,tmps,todo,defers,mode,kind,round⟩:=f';simp only[base,Frame.at]at a2 a3 a4;subst a2 a3 a4;rfl);have hT:=hf.tmps;have bn:f'.tmps.size=24:=hT.size.symm;obtain⟨_,g2,bj⟩:=kV hT (k:=2) (v:=.pointer (WH ⟨wh.heap.size,0,WJ⟩)) rfl;obtain⟨_,g5,aQ⟩:=kV hT (k:=5) (v:=.pointer (WH ⟨wh.heap.size+2,0,WJ⟩)) rfl;obtain⟨_,am,az⟩:=kV hT (k:=11) (v:=.slice (WH ⟨wh.heap.size+1,0,WJ⟩) n n) rfl;obtain⟨⟨pb,_,_⟩,rfl,Y,rfl,rfl⟩:=m7 bj;obtain⟨⟨C,_,_⟩,rfl,hC,rfl,rfl⟩:=m7 aQ;obtain⟨⟨R,_,_⟩,rfl,hR,rfl,rfl⟩:=xW az;simp only at Y hC hR;have he:=W.jf;have H:=E.jf;have K:∀{b p},aX b p->b<wh.heap.size:=λy=>(he.lt y).1;(have J:∀{b p},ρ1 b p->wh.heap.size<=b->w.heap.size<=p:=λ{b p}y ae=>(T.new b p y).resolve_left λU=>by have:=K U;omega);have bb:=J Y (W5 _);have fC:=J hC (by omega);have fR:=J hR (by omega);(have bw:ok.old.heap.size<=w.heap.size:=by apply Xs;intro Q;have:=W.aJ w.heap.size Q;rw[Array.getElem?_eq_none (W5 _),Array.getElem?_eq_getElem Q]at this;cases this);(obtain⟨M',aB,bf⟩:∃M':Array WL,w1.heap[R]?=WH (.cells M' 202)/\M'.size=6*n:=by obtain⟨o,o',e1,e2,e3⟩:=H.obj hR;rw[Hr]at e1;cases e1;cases e3 with|cells U _ ak=>obtain rfl:=ak.nil rfl;exact⟨_,e2,by rw[<-U.size];exact hM⟩);(have al:w1.heap[C]?=WH (.cells #[.slice (WH ⟨R,0,WJ⟩) n n] 198):=by obtain⟨o,o',e1,e2,e3⟩:=H.obj hC;rw[Uh]at e1;cases e1;cases e3 with|@cells _ x' U _ _ _ ak=>obtain rfl:=ak.nil rfl;obtain⟨x'⟩:=x';cases U with|cons hv hs=>cases hs;obtain⟨⟨R',_,_⟩,rfl,Z,rfl,rfl⟩:=xW hv;obtain rfl:=H.inj.fn hR Z;exact e2);have ax:=(H.lt hR).2;have ac:=(H.lt hC).2;(have aZ:R≠C:=λe=>by subst e;have:=H.inj.inj hR hC;omega);have aj:=Ve (Wg:=w1.heap.size) B0 he H T.le Y hC ap al;have ae:=Cm (wh:=wh) T.le Y hC;(have bv:gs1[0]?=WH (G (f'.at ⟨f'.tmps,f'.defers⟩ (.code r2::[.code sx])) ba):=by rw[<-aO];exact af);obtain⟨Nn,aF,a',w',ah,t',q',au,an,br,⟨F,rfl,rfl⟩,ao,S⟩:=walk_beside (P:=WG) (Shun:=Shun1) (B:=w1.heap.size) (D:=λ_ _ es=>es=#[]) (λ_ _ es h e he=>by subst h;simp at he) (3+sumTo gs1.size q1) 3 gs1 _ w1 sl t1 q1 (W5 _) bv E.lv E.tG (Qc f' hf.early f'.tmps f'.defers ba [.code sx] w1);have I:((w1.alloc gJ).at F).heap=w1.heap.push gJ:=rfl;(have z:((w1.alloc gJ).at F).heap.size=w1.heap.size+1:=by rw[I];simp);(have A:∀p,p<w1.heap.size->((w1.alloc gJ).at F).heap[p]?=w1.heap[p]?:=λp y=>by rw[I,WI,if_neg (by omega)]);(have a5:((w1.alloc gJ).at F).heap[w1.heap.size]?=WH gJ:=by rw[I,WI,if_pos rfl]);have aq:=qG aj (w':=(w1.alloc gJ).at F) (by omega) (λb p y=>A p (aj.lt y).2) ⟨rfl,rfl⟩;(have L:∀{b p:Nat},lH aX wh.heap.size pb C b p->(∃x t f,((w1.alloc gJ).at F).heap[p]?=WH (.cells x t f))->cG (dy wh pa) b:=by intro b p y⟨x,t,f,e⟩;obtain⟨o,o',e1,e2,e3⟩:=aq.obj y;rw[e]at e2;cases e2;cases e3 with|cells=>exact uu ⟨_,_,_,e1⟩);(have aV:∀{b p:Nat},lH aX wh.heap.size pb C b p->b≠wh.heap.size+1/\b<wh.heap.size+3:=by rintro b p(y|⟨rfl,_⟩|⟨rfl,_⟩);(·have:=K y;omega);(·omega);·omega);refine⟨w1.heap.size,C,R,pb,⟨aF,(w1.alloc gJ).at F,t',λ_=>⟨λ_ _=>False,[],wh,0⟩,λ_=>⟨0,0,0⟩,λ_=>0,q',0,0⟩,ah,_,ba,⟨Nn,au⟩,λokW RS=>⟨⟨?_,a5,?_⟩,?_⟩,br,?_,⟨hp.defers,hp.kind⟩,?_,bb,fC,fR,T.size,by show w.heap.size<=((w1.alloc gJ).at F).heap.size;rw[z];have:=T.size;omega,?_,λb p h=>.inl h⟩;(·refine⟨an,λk g hk _ hg=>ao.old k g hk hg,λk hk=>ao.above k (by rw[an];exact hk),λi hi=>absurd hi (by omega),?_,?_,?_,?_,S.hears,λi hi=>absurd hi (by omega),λi hi=>absurd hi (by omega),λi hi=>absurd hi (by omega),?_⟩;(·refine⟨aq,λx g hg=>.inl (W.cU x g hg),λi hi=>absurd hi (by omega),λi hi=>absurd hi (by omega),λi hi=>absurd hi (by omega),λi hi=>absurd hi (by omega),λi hi=>absurd hi (by omega),λb p y Q=>?_,λi hi=>absurd hi (by omega),λb p y=>?_,λi hi=>absurd hi (by omega),?_,?_,?_,λp aa=>?_,λp aa=>?_,W5 _,λi hi=>absurd hi (by omega)⟩;(·rcases y with y|⟨rfl,rfl⟩|⟨rfl,rfl⟩;(·obtain⟨x,t,hi,e,_⟩:=W.lz b p y Q;exact uu ⟨_,_,_,by rw[qj (K y),e];rfl⟩);(·exact uu ⟨_,_,_,uy⟩);·exact uu ⟨_,_,_,tO⟩);(·have Q:=(aj.lt y).2;refine⟨by show p≠w1.heap.size;omega,λe=>?_,λe=>?_,λl hl=>?_⟩;(·have e:p=R:=e;subst e;exact(aV y).1 (H.inj.inj (ae _ _ y) hR));(·have e:p=C:=e;subst e;exact L y ⟨_,_,_,by rw[A _ ac];exact al⟩);·have:=E.vZ b p (ae _ _ y);cases l with|cell a=>exact this.1 a hl|obj r=>have e:r=p:=hl;subst e;exact this.2|_=>exact hl.elim);(·show _<((w1.alloc gJ).at F).heap.size/\_<((w1.alloc gJ).at F).heap.size/\_<((w1.alloc gJ).at F).heap.size/\_/\_/\_;rw[z];have:=T.size;refine⟨by show w1.heap.size<_;omega,by show C<_;omega,by show R<_;omega,W5 _,by show ok.old.heap.size<=w1.heap.size;omega,by show ok.old.heap.size<=R;omega⟩);(·exact(A _ ac).trans al);(·exact⟨M',(A _ ax).trans aB,bf⟩);(·have hk:=E.aJ p aa;refine(A p ?_).trans hk;have:p<ok.old.heap.size:=aa;have:=T.size;omega);·obtain⟨b,y,U⟩:=aa;have Q:=(H.lt (T.le _ _ y)).2;refine⟨rfl,by show p≠w1.heap.size;omega,λe=>?_,by show p<((w1.alloc gJ).at F).heap.size;rw[z];omega,λb2 aC=>L aC U⟩;have e:p=R:=e;subst e;have:=H.inj.inj (T.le _ _ y) hR;have:=K y;omega);(·(have bu:Wk (lV w1.heap.size C R n gs1.size ((w1.alloc gJ).at F).heap.size ((w1.alloc gJ).at F).heap.size ((w1.alloc gJ).at F) (uA aX ((w1.alloc gJ).at F)) Shun1 okW RS) 0=λ_=>False:=by funext g;apply propext;unfold Wk;constructor;(·rintro⟨H,h2⟩;omega);·exact False.elim);rw[bu];refine Tl.begin S λi a Z⟨ad,e,y⟩=>?_;obtain⟨op,V,bg⟩:=touch_of Z;have:=GL (S.seen op (Xd V)) bg;rw[e]at this;have:ad.block<w1.heap.size:=this;have y:ad.block=w1.heap.size:=y;omega);(·exact(Kn.begin S).mono λg hg=>hg.elim);(·intro i hi;obtain⟨op,V,bt⟩:=Xn.1 hi;have:=S.seen op (Xd V);rw[bt]at this;exact absurd (show w1.heap.size<w1.heap.size from this) (by omega));·intro op V;have:=MemAct.low_mono (Xt _) (S.seen op V);show op.act.low ((w1.alloc gJ).at F).heap.size;rw[z];exact this);(·have:=GV (j:=0) (D:=λ_=>⟨0,0,0⟩) (λi hi=>absurd hi (by omega));simpa[Vc,sumTo]using this);(·refine⟨by show R≠w1.heap.size;omega,by show C≠w1.heap.size;omega,aZ,λi i' o a1 a2 a3 a4=>?_,λa Z ho=>?_,λa Z ho=>?_,λl hl=>?_,?_⟩;(·have a1:6*i<=o:=a1;have a2:o<6*i+6:=a2;have a3:6*i'<=o:=a3;have a4:o<6*i'+6:=a4;omega);(·have bz:a.block<w1.heap.size:=E.low _ ho;have bC:a.block=w1.heap.size:=Z;omega);(·have:=E.vZ _ _ hR;cases a with|cell ad=>exact this.1 ad Z ho|obj r=>have e:r=R:=Z;subst e;exact this.2 ho|_=>exact Z.elim);(·show l.low ((w1.alloc gJ).at F).heap.size;rw[z];exact Loc.low_mono (Xt _) (E.low l hl));·exact(WU.1 af).1);(·have aJ:∀{v v':WL},ar ok ρ1 v v'->(∃u,ar ok aX v u)->ar (kx ok w1.heap.size R n) (lH aX wh.heap.size pb C) v v':=λh⟨u,hu⟩=>(h.shrink (BG B0) T.le H.inj.fn hu).lift (ug B0) (λb p h=>.inl h);have aw:(∃x,aX pa.block x)->∃u,ar ok aX (.pointer (WH pa)) u:=λ⟨x,U⟩=>⟨.pointer (WH ⟨x,pa.off,pa.spot⟩),.ptr ⟨U,rfl,rfl⟩⟩;(have O:(∀a,ra=WH a->∃x,aX a.block x)->∃u,ar ok aX (.slice ra n c) u:=by intro h;cases ra with|none=>exact⟨_,.dZ n c⟩|some a=>obtain⟨x,U⟩:=h a rfl;exact⟨.slice (WH ⟨x,a.off,a.spot⟩) n c,ar.slice (a:=a) (a':=⟨x,a.off,a.spot⟩) ⟨U,rfl,rfl⟩ n c⟩);refine⟨hf.fn,rfl,by intro i hi;simp only[Frame.at,Xp]at hi;subst hi;trivial,?_,rfl,rfl,?_,rfl,rfl,hf.early⟩;rotate_left;(·rfl);show aG (kx ok w1.heap.size R n) (lH aX wh.heap.size pb C) (sP (.pointer (WH pa)) (.slice ra n c) n wh.heap.size) (f'.tmps.setIfInBounds 6 (.pointer (WH ⟨w1.heap.size,0,WJ⟩)));obtain⟨v0,v1,v2,v3,v4,v5,v6,v7,v8,v9,bp,bA,a8,bl,aY,be,a7,bh,aS,aA,bi,aT,aN,aI,eT⟩:=zw f'.tmps bn;have av:=hT;rw[eT]at av g2 g5 am;simp only[Xc,W9,W8,W4]at g2 g5 am;subst g2 g5 am;rw[eT];have m:aP ok ρ1 (s2 (.pointer (WH pa)) (.slice ra n c) n wh.heap.size).toList [v0,v1,.pointer (WH ⟨pb,0,WJ⟩),v3,v4,.pointer (WH ⟨C,0,WJ⟩),v6,v7,v8,v9,bp,.slice (WH ⟨R,0,WJ⟩) n n,a8,bl,aY,be,a7,bh,aS,aA,bi,aT,aN,aI]:=av;simp only[s2]at m;obtain⟨h0,m⟩:=bm m;obtain⟨H,m⟩:=bm m;obtain⟨h2,m⟩:=bm m;obtain⟨h3,m⟩:=bm m;obtain⟨h4,m⟩:=bm m;obtain⟨h5,m⟩:=bm m;obtain⟨h6,m⟩:=bm m;obtain⟨h7,m⟩:=bm m;obtain⟨h8,m⟩:=bm m;obtain⟨h9,m⟩:=bm m;obtain⟨aR,m⟩:=bm m;obtain⟨bx,m⟩:=bm m;obtain⟨aD,m⟩:=bm m;obtain⟨aL,m⟩:=bm m;obtain⟨bo,m⟩:=bm m;obtain⟨bq,m⟩:=bm m;obtain⟨aE,m⟩:=bm m;obtain⟨bd,m⟩:=bm m;obtain⟨aK,m⟩:=bm m;obtain⟨aU,m⟩:=bm m;obtain⟨a0,m⟩:=bm m;obtain⟨aW,m⟩:=bm m;obtain⟨aH,m⟩:=bm m;obtain⟨a6,m⟩:=bm m;simp only[sP,Xi];exact(.cons (aJ h0 (aw ap)) (.cons (aJ H (O ay)) (.cons (.ptr ⟨.inr (.inl ⟨rfl,rfl⟩),rfl,rfl⟩) (.cons (aJ h3 ⟨_,.undef⟩) (.cons (aJ h4 ⟨_,.dZ 0 0⟩) (.cons (.ptr ⟨.inr (.inr ⟨rfl,rfl⟩),rfl,rfl⟩) (.cons (ar.tag (ok:=kx ok w1.heap.size R n) 0 B0.bM.symm rfl trivial) (.cons (aJ h7 ⟨_,.undef⟩) (.cons (aJ h8 ⟨_,.undef⟩) (.cons (aJ h9 (O ay)) (.cons (aJ aR ⟨_,.int .i64 n⟩) (.cons (.bD trivial) (.cons (aJ aD ⟨_,.undef⟩) (.cons (aJ aL ⟨_,.undef⟩) (.cons (aJ bo ⟨_,.undef⟩) (.cons (aJ bq ⟨_,.undef⟩) (.cons (aJ aE ⟨_,.undef⟩) (.cons (aJ bd ⟨_,.undef⟩) (.cons (aJ aK ⟨_,.undef⟩) (.cons (aJ aU ⟨_,.undef⟩) (.cons (aJ a0 ⟨_,.undef⟩) (.cons (aJ aW ⟨_,.undef⟩) (.cons (aJ aH ⟨_,.undef⟩) (.cons (aJ a6 ⟨_,.undef⟩) .nil)))))))))))))))))))))))));(·obtain⟨fe,X,ai⟩:∃fe X,Fs ok WG aX (fe::cs) X:=bc;cases ai with|cons _ _ a9=>exact OU (BG B0) T.le H.inj.fn hs a9);·intro b p y;obtain⟨o,o',e1,e2,e3⟩:=CL B0 he H T.le y;exact⟨o,o',e1,(A p (H.lt (T.le _ _ y)).2).trans e2,e3⟩
end
end
end Go.Proofs.YtldeiiffabfmeaaGreatDoor
namespace Go.Rel
section
def kU(md:XE)(ops:Array Xv)(n:Nat)(tail:List Nat):Bool:=decide (n<=ops.size)&&((Xf n).all λi=>match ops[i]? with|WH o=>o.after.toList.all λe=>!Xy md e||(decide (e.on<n)&&decide (e.on<i))|WJ=>WM)&&((Xf (ops.size-n)).all λk=>(Xf n).all λj=>uB md ops n (n+k) j)&&(chain md ops (ops.size-n) (Xh n WM++Xh (ops.size-n) WO)==WH tail)
theorem mi{md:XE}{ops:Array Xv}{n:Nat}{tail:List Nat}(h:kU md ops n tail=WM):Cut md ops n tail:=by
 simp only[kU,WK,decide_eq_true_eq,WZ,List.mem_range,beq_iff_eq]at h;obtain⟨⟨⟨q,p⟩,l⟩,m⟩:=h;have a:∀(i:Nat)o,i<n->ops[i]?=WH o->∀e∈o.after,Xy md e=WM->e.on<n/\e.on<i:=by intro i o hi c e b d;have:=p i hi;rw[c]at this;simp only[WZ]at this;have:=this e (by simpa using b);simpa[d]using this
 refine⟨q,λi o hi c e b d=>(a i o hi c e b d).1,λk hk g j f=>?_,m,⟨id,λi o hi c e b d=>(a i o hi c e b d).2⟩⟩;have:=l (k-n) (by omega) j f;rwa[show n+(k-n)=k by omega]at this
end
end Go.Rel
namespace Go.Proofs.YtldeiiffabfmeaaGreatDoor
section
open Go.Conc Go.ConcN Go.RowKit Go.Conc.Lib Go.ConcR.Gen Go.ConcN.Gen Go.Rel
open Go.ConcR(KK wgBlock WgAt stA smA rd wr mk Payload DC0 ofEvent_cell)
theorem Bn:kU .any fK 25 [25,26]=WM/\kU .text fK 25 [25,26]=WM/\kU .gc fK 25 [25,26]=WM:=⟨by kernel_rfl,by kernel_rfl,by kernel_rfl⟩
theorem Q2(m:Bool):nk m fK 25 [25,26]:=⟨λ_=>mi Bn.1,λ_ _=>⟨mi Bn.2.1,mi Bn.2.2⟩⟩
theorem MQ:∀(i:Nat)o j a,i<25->fK[i]?=WH o->o.guard=WH (j,a)->j<25:=by
 have h:(fK.toList.all λo=>o.guard.isNone)=WM:=by kernel_rfl
 intro i o j a _ b c;have:=WZ.1 h o (by simpa using Xd b);rw[c]at this;cases this
def Az(okW:ak)(n:Nat)(RS:Nat->Array WL->WQ->Prop)(i:Nat)(a:Act)(w:WQ):Prop:=a.defers=[]/\a.tmps.size=31/\a.tmps[5]?=WH (.iface okW.bM (.int .i64 (1:Nat)))/\a.tmps[6]?=WH (.int .i64 i)/\∃x,a.tmps[29]?=WH (.agg x)/\x.size=6/\(∀v∈x,v.oneCell'=WM)/\i<n/\RS i x w
def uV(okW:ak)(n:Nat)(RS:Nat->Array WL->WQ->Prop)(i:Nat)(b h c g:WL)(wh:WQ):Prop:=∀f d,(Code.region 1 (fK.extract 0 25) WM).wp WG (λe a w=>e=.normal/\Az okW n RS i a w) ⟨mj .nilFunc b h c g,[]⟩ (wh.re f d)
structure wH(okW:ak):Prop where
 fits:Fits okW WG
 dF:gB okW WG
 ops:∀(i:Nat)o,i<25->fK[i]?=WH o->ij okW WG o
theorem Lj{okW:ak}(q:wH okW){n:Nat}{RS:Nat->Array WL->WQ->Prop}(u:∀i x w A d,RS i x w->RS i x (w.re A d)){i:Nat}{m g j o:WL}{wh:WQ}(h:uV okW n RS i m g j o wh)(c:∃(e:ax)(t:Array WL)(y:WQ),aG okW e (mj .nilFunc m g j o) t/\bh okW e wh y/\g9 okW e):Go.Rel.Safe okW WG (C5 okW n RS i) [qS.at ⟨mj .nilFunc m g j o,[]⟩ [.code vF]] wh:=by obtain⟨e,t,y,D,I,F⟩:=c;have G:fa okW WG e (qS.at ⟨mj .nilFunc m g j o,[]⟩ []) (qS.at ⟨t,[]⟩ []):=⟨rfl,rfl,λ_ h=>(by cases h),D,rfl,rfl,rfl,rfl,rfl,show CallKind.normal≠CallKind.early by decide⟩;rw[Wv];have hs:=Nt q.fits q.dF (id:=1) (b:=qS) (k:=[]) (cs:=[]) (td:=[]) (R:=Az okW n RS i) (Q2 _) (by decide) MQ q.ops (λa w A d f=>⟨f.1,f.2.1,f.2.2.1,f.2.2.2.1,by obtain⟨x,p,s,z,r,v⟩:=f.2.2.2.2;exact⟨x,p,s,z,r,u _ _ _ _ _ v⟩⟩) h ⟨_,Tryz.func131⟩ ⟨e,[_],y,.cons G ⟨rfl,rfl⟩ .nil,I,F⟩;refine Go.Rel.Safe.mono ?_ hs;rintro l w⟨⟨T,J⟩,rfl,B,p,s,z,x,r,v,E,C,H⟩;simp only at B;subst B;exact⟨T,x,rfl,p,s,z,r,v,E,C,H⟩
end
end Go.Proofs.YtldeiiffabfmeaaGreatDoor
namespace Go.Rel
section
open Go.Conc Go.ConcN
open Go.ConcR(Payload)
variable[Payload]{ok:ak}{P:Xm}{J:dU}{j:Nat}{ρ0:ax}{wh wh':WQ}{d0:Nat}{tag:CTag}
theorem bB.oJ{s:Sn}{a:Nat->XD->Nat}{d:Nat}(h:bB ok P J j ρ0 (wh.re a d) d0 tag s):bB ok P J j ρ0 wh d0 tag s:=by have m:=h.cy.mem;exact⟨{h.cy with mem:=⟨⟨m.dh.inj,m.dh.gs,m.dh.zero,m.dh.obj,m.dh.out⟩,m.mv,m.rel,m.cU,m.mN,m.nD,m.kD,m.lz,m.gU,m.jw,m.kO,m.lt,m.var,m.row,m.aJ,m.still,m.n1⟩},h.wg,h.mode⟩
structure iR(ok:ak)(P:Xm)(J:dU)(j:Nat)(ρ0:ax)(wh:WQ)(d0:Nat)(tag:CTag)(ba:List WT)(fr:WT)(s:Sn)(f:WT):Prop where
 nX:bB ok P J j ρ0 wh d0 tag s
 qq:s.gs[0]?=WH (G f ba)
 rel:fa ok P ρ0 fr f
 plain:Plain f
theorem F8{ba:List WT}(A:jJ P J j)(F:Fits ok P)(B:eF ok P)(e:tag≠.blk){fr:WT}{S:List WT->WQ->Prop}(hs:Safe ok P S [fr] wh){s:Sn}{f:WT}(h:iR ok P J j ρ0 wh d0 tag ba fr s f)(m:∀l w,S l w->∃fr' wh' k d,l=[fr']/\w=World.re wh' k d/\S l wh')(sl:Option (Nat×Nat)):∃s' c ρ0' f' fr' wh',bY P s sl s' c/\iR ok P J j ρ0' wh' d0 tag ba fr' s' f'/\ρ0.le ρ0'/\S [fr'] wh':=by obtain⟨s1,a,ρ1,l1,wh1,n,r,r1,c1,b1,k1,b,o⟩:=RX A F B e ba hs (X:=[]) sl h.nX (by simpa using h.qq) (.cons h.rel h.plain .nil);obtain⟨fr',i,k,d,rfl,rfl,p⟩:=m _ _ o;cases k1 with|cons g q gs=>cases gs;exact⟨s1,a,ρ1,n,fr',i,r1,⟨c1.oJ,by simpa using b1,g,q⟩,b,p⟩
theorem gZ{ba:List WT}(A:jJ P J j)(F:Fits ok P)(B:eF ok P)(i:tag≠.blk){fr fr1:WT}{s:Sn}{f:WT}(h:iR ok P J j ρ0 wh d0 tag ba fr s f)(m:own P [fr]=pure [fr1])(hd:jG ok P [fr])(sl:Option (Nat×Nat)):∃s' k ρ0' f',bY P s sl s' k/\iR ok P J j ρ0' wh d0 tag ba fr1 s' f'/\ρ0.le ρ0':=by
 have hs:Safe ok P (λl w=>l=[fr1]/\∃a d,w=wh.re a d) [fr] wh:=by refine .step hd (λa d=>⟨[fr1],wh.re a d,#[],by rw[m];rfl⟩) λa d q w' es n=>?_;rw[m]at n;cases n;exact .stop ⟨rfl,a,d,rfl⟩
 obtain⟨s1,c,ρ1,o,fr',wh1,r1,b,g,e1,a,d,e2⟩:=F8 A F B i hs h (λl w⟨e,a,d,p⟩=>⟨fr1,wh,a,d,e,p,e,wh.tape,wh.drawn,rfl⟩) sl;cases e1;subst e2;exact⟨s1,c,ρ1,o,r1,⟨b.nX.oJ,b.qq,b.rel,b.plain⟩,g⟩
theorem vf{ba:List WT}(A:jJ P J j)(F:Fits ok P)(C:gB ok P)(r:tag≠.blk){c:XB}(D:gQ ok P c){b:WT}{a:Act}{k:List Xw}{X:Act->Prop}(H:∃fn,P.funcs[b.fn]?=WH fn)(B:∀g d,c.wp P (λe u w1=>e=.normal/\X u/\w1=wh'.re g d) a (wh.re g d)){s:Sn}{f:WT}(h:iR ok P J j ρ0 wh d0 tag ba (b.at a (.code c::k)) s f)(sl:Option (Nat×Nat)):∃s' q ρ0' f' a',bY P s sl s' q/\iR ok P J j ρ0' wh' d0 tag ba (b.at a' k) s' f'/\ρ0.le ρ0'/\X a':=by
 have m:kL ok P (b.at a (.code c::k)::[]) wh:=⟨ρ0,[f],s.w,.cons h.rel h.plain .nil,h.nX.cy.mem.dh,h.nX.cy.mem.mv⟩;have hs:=JH (ids:=[]) (Q:=λe u w1=>e=.normal/\X u/\∃g d,w1=wh'.re g d) F C D (λe a w g d o=>⟨o.1,o.2.1,by obtain⟨E,I,rfl⟩:=o.2.2;exact⟨g,d,rfl⟩⟩) (λe a w o=>by rw[o.1];trivial) (λg d=>by intro b k cs;obtain⟨e,a',w',i,z⟩:=B g d b k cs;exact⟨e,a',w',⟨i.1,i.2.1,g,d,i.2.2⟩,z⟩) H (by simp) m;have v:Safe ok P (λl w=>∃a',l=[b.at a' k]/\X a'/\∃g d,w=wh'.re g d) [b.at a (.code c::k)] wh:=by refine Safe.mono ?_ hs;rintro l w⟨e,a',f,rfl,⟨rfl,n,g,d,rfl⟩,x⟩;cases x;exact⟨a',rfl,n,g,d,rfl⟩
 obtain⟨s1,p,ρ1,y,fr',wh1,r1,i,t,a',e1,n,g,d,e2⟩:=F8 A F C.cE r v h (λl w⟨a',e,n,g,d,G⟩=>⟨b.at a' k,wh',g,d,e,G,a',e,n,wh'.tape,wh'.drawn,rfl⟩) sl;cases e1;subst e2;exact⟨s1,p,ρ1,y,a',r1,⟨i.nX.oJ,i.qq,i.rel,i.plain⟩,t,n⟩
end
end Go.Rel
namespace Go.Proofs.YtldeiiffabfmeaaGreatDoor
section
open Go.Conc Go.ConcN Go.RowKit Go.Conc.Lib Go.ConcR.Gen Go.ConcN.Gen Go.Rel
open Go.ConcR(KK wgBlock WgAt stA smA rd wr mk Payload DC0 ofEvent_cell)
noncomputable def tU:XB:=.seq r9 (.seq lP .ret)
noncomputable def KL:List Xw:=[.inLoop lb,.inBlock 0,.code tU]
noncomputable def K6:List Xw:=.code r7::.inBlock 1::.code r8::KL
theorem MI:r7=.region 7 (opsOf r7) WO:=rfl
structure jo where
 ah:Int
 read:Bool
 ka:Option Xq
 kn:Nat
 kc:Nat
 b0:Bool
 b1:Bool
 b2:Bool
 b3:Bool
def jo.cells(e:jo):Array WL:=#[.int .i64 e.ah,.bool e.read,.slice e.ka e.kn e.kc,.bool e.b0,.bool e.b1,.bool e.b2,.bool e.b3]
def pg(w:WQ)(rb o:Nat)(e:jo):Prop:=w.cell? ⟨rb,o,WJ⟩=WH (.int .i64 e.ah)/\w.cell? ⟨rb,o+1,WJ⟩=WH (.bool e.read)/\w.cell? ⟨rb,o+2,WJ⟩=WH (.slice e.ka e.kn e.kc)/\w.cell? ⟨rb,o+3,WJ⟩=WH (.bool e.b0)/\w.cell? ⟨rb,o+4,WJ⟩=WH (.bool e.b1)/\w.cell? ⟨rb,o+5,WJ⟩=WH (.bool e.b2)/\w.cell? ⟨rb,o+6,WJ⟩=WH (.bool e.b3)
def de(w:WQ)(i:Nat)(e:jo):WQ:=(w.alloc (.cells #[.int .i64 i] 3)).alloc (.cells e.cells 173)
def fR(f:Nat->WL)(rb ro i N:Nat)(e:jo):Nat->WL:=dz (dz (dz (dz (dz (dz f 15 (.bool WM)) 16 (.int .i64 i)) 17 (.pointer (WH ⟨rb,ro+i*7,WJ⟩))) 18 (.agg e.cells)) 7 (.pointer (WH ⟨N,0,WJ⟩))) 8 (.pointer (WH ⟨N+1,0,WJ⟩))
section
variable{ok:ak}{J:dU}{j:Nat}{ρ0:ax}{wh:WQ}{ba:List WT}{s:Sn}{f:WT}{p pb cv gv:WL}{rb ro n c i:Nat}{fv:Nat->WL}
theorem Vn(A:jJ WG J j)(F:Fits ok WG)(C:gB ok WG)(ht:ok.bM=1000000){ent:jo}(hi:i<n)(l:pg wh rb (ro+i*7) ent)(h:iR ok WG J j ρ0 wh 0 eK ba ((base 109).at ⟨sT p (.slice (WH ⟨rb,ro,WJ⟩) n c) pb cv gv n i fv,[]⟩ (.code lb::KL)) s f)(sl:Option (Nat×Nat)):∃s' N ρ0' f',bY WG s sl s' N/\iR ok WG J j ρ0' (de wh i ent) 0 eK ba ((base 109).at ⟨sT p (.slice (WH ⟨rb,ro,WJ⟩) n c) pb cv gv n i (fR fv rb ro i wh.heap.size ent),[]⟩ (.inRegion (opsOf r6) [0]::K6)) s' f'/\ρ0.le ρ0':=by
 have ne:eK≠CTag.blk:=by simp
 have B:=C.cE;have R:∃fn,Tryz.prog.funcs[(base 109).fn]?=WH fn:=⟨_,Xb⟩;have Q:=wV ok.gs;have K:=blank ht;obtain⟨e0,e1,e2,e3,e4,e5,e6⟩:=l;rw[GK]at h;obtain⟨s1,z,ρ1,f1,q1,h1,l1⟩:=gZ A F B ne h (fr1:=(base 109).at ⟨sT p (.slice (WH ⟨rb,ro,WJ⟩) n c) pb cv gv n i fv,[]⟩ (.code r4::.code (.seq (.cond (.tmp 15) .skip (.exit 0)) (.seq (.block 1 (.seq r5 (.seq r6 r7))) r8))::KL)) rfl (dw trivial) sl;obtain⟨s2,r,S,f2,a2,q2,Y,l2,x2⟩:=vf (X:=λa=>a=⟨sT p (.slice (WH ⟨rb,ro,WJ⟩) n c) pb cv gv n i (dz fv 15 (.bool WM)),[]⟩) (wh':=wh) A F C ne (iz K Q.1) R (λD d=>aF (Ez p _ pb cv gv n i fv (wh.re D d)) λe a w b=>⟨b.1,by rw[b.2.1];simp[hi],b.2.2⟩) h1 z;subst x2;obtain⟨s3,x,aa,f3,T,h3,l3⟩:=gZ A F B ne Y (fr1:=(base 109).at ⟨sT p (.slice (WH ⟨rb,ro,WJ⟩) n c) pb cv gv n i (dz fv 15 (.bool WM)),[]⟩ (.code (.cond (.tmp 15) .skip (.exit 0))::.code (.seq (.block 1 (.seq r5 (.seq r6 r7))) r8)::KL)) rfl (dw trivial) r;obtain⟨s4,q,ad,f4,q4,h4,Z⟩:=gZ A F B ne h3 (fr1:=(base 109).at ⟨sT p (.slice (WH ⟨rb,ro,WJ⟩) n c) pb cv gv n i (dz fv 15 (.bool WM)),[]⟩ (.code .skip::.code (.seq (.block 1 (.seq r5 (.seq r6 r7))) r8)::KL)) rfl (dw trivial) x;obtain⟨s5,y,W,f5,q5,h5,V⟩:=gZ A F B ne h4 (fr1:=(base 109).at ⟨sT p (.slice (WH ⟨rb,ro,WJ⟩) n c) pb cv gv n i (dz fv 15 (.bool WM)),[]⟩ (.code (.seq (.block 1 (.seq r5 (.seq r6 r7))) r8)::KL)) rfl (dw trivial) q;obtain⟨s6,O,af,f6,q6,h6,l6⟩:=gZ A F B ne h5 (fr1:=(base 109).at ⟨sT p (.slice (WH ⟨rb,ro,WJ⟩) n c) pb cv gv n i (dz fv 15 (.bool WM)),[]⟩ (.code (.block 1 (.seq r5 (.seq r6 r7)))::.code r8::KL)) rfl (dw trivial) y;obtain⟨s7,I,ac,f7,q7,h7,l7⟩:=gZ A F B ne h6 (fr1:=(base 109).at ⟨sT p (.slice (WH ⟨rb,ro,WJ⟩) n c) pb cv gv n i (dz fv 15 (.bool WM)),[]⟩ (.code (.seq r5 (.seq r6 r7))::.inBlock 1::.code r8::KL)) rfl (dw trivial) O;obtain⟨s8,L,ai,f8,q8,h8,l8⟩:=gZ A F B ne h7 (fr1:=(base 109).at ⟨sT p (.slice (WH ⟨rb,ro,WJ⟩) n c) pb cv gv n i (dz fv 15 (.bool WM)),[]⟩ (.code r5::.code (.seq r6 r7)::.inBlock 1::.code r8::KL)) rfl (dw trivial) I;obtain⟨s9,E,U,f9,a9,q9,h9,l9,x9⟩:=vf (X:=λa=>a=⟨sT p (.slice (WH ⟨rb,ro,WJ⟩) n c) pb cv gv n i (fR fv rb ro i wh.heap.size ent),[]⟩) (wh':=de wh i ent) A F C ne (iz K Q.2.1) R (λD d=>aF (QK p pb cv gv rb ro n c i (dz fv 15 (.bool WM)) (wh.re D d) ent.ah ent.read ent.b0 ent.b1 ent.b2 ent.b3 hi ent.ka ent.kn ent.kc e0 e1 e2 e3 e4 e5 e6) λe a w b=>⟨b.1,b.2.1,b.2.2⟩) h8 L;subst x9;obtain⟨aj,g,P,ae,M,v,tF⟩:=gZ A F B ne h9 (fr1:=(base 109).at ⟨sT p (.slice (WH ⟨rb,ro,WJ⟩) n c) pb cv gv n i (fR fv rb ro i wh.heap.size ent),[]⟩ (.code r6::.code r7::.inBlock 1::.code r8::KL)) rfl (dw trivial) E;obtain⟨t,k,m,G,o,H,u⟩:=gZ A F B ne v (fr1:=(base 109).at ⟨sT p (.slice (WH ⟨rb,ro,WJ⟩) n c) pb cv gv n i (fR fv rb ro i wh.heap.size ent),[]⟩ (.inRegion (opsOf r6) [0]::K6)) rfl (dw trivial) g;exact⟨t,k,m,G,(((q1.trans q2).trans (T.trans q4)).trans ((q5.trans q6).trans (q7.trans q8))).trans ((q9.trans M).trans o),H,(((l1.trans l2).trans (l3.trans Z)).trans ((V.trans l6).trans (l7.trans l8))).trans ((l9.trans tF).trans u)⟩
end
noncomputable def o6:Xv:=((opsOf r6)[0]?).getD default
theorem ve:(opsOf r6)[0]?=WH o6/\o6.op=.call {callee:=.value (.func 130),args:=#[.tmp 6,.const (.int .i64 1)],argTypes:=#[224,3]}/\o6.dst=WH 19/\o6.guard=WJ:=⟨rfl,rfl,rfl,rfl⟩
noncomputable def o9:Xv:=((opsOf r9)[0]?).getD default
theorem uP:(opsOf r9)[0]?=WH o9/\o9.op=.call {callee:=.value (.func 136),args:=#[.tmp 6],argTypes:=#[224]}/\o9.dst=WH 22/\o9.guard=WJ/\(opsOf r9).size=1:=⟨rfl,rfl,rfl,rfl,rfl⟩
noncomputable def qI:Xv:=((opsOf r7)[0]?).getD default
noncomputable def sZ:Xv:=((opsOf r7)[1]?).getD default
theorem vg:(opsOf r7)[0]?=WH qI/\qI.op=.makeFunc (.func 131) #[] #[.tmp 6,.tmp 2,.tmp 8,.tmp 5,.tmp 7]/\qI.dst=WH 20/\qI.guard=WJ:=⟨rfl,rfl,rfl,rfl⟩
theorem tg:(opsOf r7)[1]?=WH sZ/\sZ.op=.go {callee:=.value (.tmp 20),args:=#[],argTypes:=#[]}/\sZ.dst=WJ/\sZ.guard=WJ/\(opsOf r7).size=2:=⟨rfl,rfl,rfl,rfl,rfl⟩
section
variable{Wg:Nat}{fb:WT}{T:Array WL}{D:List Deferred}{ba:List WT}{K:List Xw}
theorem PF(hk:fb.kind≠.early)(d:T[6]?=WH (.pointer (WH ⟨Wg,0,WJ⟩)))(w:WQ)(hF:Xj 224 Wg w):Ev WG 224 Wg (λg _=>g=G (fb.at ⟨T.setIfInBounds 19 (.tuple #[]),D⟩ (.inRegion (opsOf r6) []::K)) ba) (G (fb.at ⟨T,D⟩ (.inRegion (opsOf r6) [0]::K)) ba) w:=by
 have e:(#[.tmp 6,.const (.int .i64 1)]:Array Xa).map (⟨T,D⟩:Act).eval=#[.pointer (WH ⟨Wg,0,WJ⟩),.int .i64 1]:=by simp[W3,WN,d]
 refine⟨13,Xe rfl λa b=>goes_call ve.1 (by simp[Xg,ve.2.2.2]) hk ve.2.1 Xz (nm_add kN) rfl ⟨⟨rfl,rfl⟩,?_⟩⟩;rw[e,<-enter_at _ Xz rfl];refine add1 (L:=kN) (mT:=0) yc (λw _=>?_) a (b hF);exactλc _=>by rw[ve.1];show G (fb.at ((⟨T,D⟩:Act).put o6.dst _) _) _=_;rw[ve.2.2.1];rfl
theorem KB(hk:fb.kind≠.early)(e:T[6]?=WH (.pointer (WH ⟨Wg,0,WJ⟩)))(w:WQ)(hF:Xj 224 Wg w):dI WG 224 Wg (iS WG .disable (dI WG 224 Wg (lM kN Wg (fb.at ⟨T,D⟩ (.inRegion (opsOf r9) [0]::K)) ba))) (G (fb.at ⟨T,D⟩ (.inRegion (opsOf r9) [0]::K)) ba) w:=by
 have d:(#[.tmp 6]:Array Xa).map (⟨T,D⟩:Act).eval=#[.pointer (WH ⟨Wg,0,WJ⟩)]:=by simp[W3,WN,e]
 obtain⟨m,c⟩:∃m,∀a,Xj 224 Wg a->Goes WG WM (RA 224 Wg) DC0 (iS WG .disable (dI WG 224 Wg (lM kN Wg (fb.at ⟨T,D⟩ (.inRegion (opsOf r9) [0]::K)) ba))) m (G (WY WG 136 #[.pointer (WH ⟨Wg,0,WJ⟩)] .normal) (fb.at ⟨T,D⟩ (.inRegion (opsOf r9) (0::[])::K)::ba)) a:=⟨10,λa h=>Tj (L:=kN) yc a h⟩;refine⟨m+1,Xe rfl λa b=>goes_call uP.1 (by simp[Xg,uP.2.2.2.1]) hk uP.2.1 XA (nm_wait kN) rfl ⟨⟨rfl,rfl⟩,?_⟩⟩;rw[d,<-enter_at _ XA rfl];exact c a (b hF)
theorem HE(g:Xk)(w:WQ)(h:lM kN Wg (fb.at ⟨T,D⟩ (.inRegion (opsOf r9) (0::[])::K)) ba g w):dI WG 224 Wg (ym WG 224 Wg (lM kN Wg (fb.at ⟨T,D⟩ (.inRegion (opsOf r9) (0::[])::K)) ba) (λg _=>g=G (fb.at ⟨T.setIfInBounds 22 (.tuple #[]),D⟩ (.inRegion (opsOf r9) []::K)) ba)) g w:=MG (L:=kN) (mT:=0) yc (λw _ a _=>by rw[uP.1];show G (fb.at ((⟨T,D⟩:Act).put o9.dst _) _) _=_;rw[uP.2.2.1];rfl) g w h
def oN(d c a b e:WL):WL:=.func (.func 131) #[] #[d,c,a,b,e]
theorem SQ{e i g b f:WL}(c:T[6]?=WH e)(h:T[2]?=WH i)(d:T[8]?=WH g)(a:T[5]?=WH b)(j:T[7]?=WH f)(w:WQ):(execOp (⟨T,D⟩:Act).eval qI).run WG w=.ok (.value (oN e i g b f)) w/\(execOp (⟨T,D⟩:Act).eval qI).events WG w #[]=#[]:=by
 have e6:(⟨T,D⟩:Act).eval (.tmp 6)=e:=by simp[W3,WN,c]
 have e2:(⟨T,D⟩:Act).eval (.tmp 2)=i:=by simp[W3,WN,h]
 have k:(⟨T,D⟩:Act).eval (.tmp 8)=g:=by simp[W3,WN,d]
 have e5:(⟨T,D⟩:Act).eval (.tmp 5)=b:=by simp[W3,WN,a]
 have l:(⟨T,D⟩:Act).eval (.tmp 7)=f:=by simp[W3,WN,j]
 constructor;·unfold execOp;simp only[vg.2.1];simp[go_sem,c,h,d,a,j,oN]
 ·unfold execOp;simp only[vg.2.1];simp[go_sem,c,h,d,a,j]
theorem K8(hk:fb.kind≠.early){f d h e j:WL}(l:T[6]?=WH f)(p:T[2]?=WH d)(n:T[8]?=WH h)(o:T[5]?=WH e)(m:T[7]?=WH j)(w:WQ):dI WG 224 Wg (λg _=>g=G (fb.at ⟨T.setIfInBounds 20 (oN f d h e j),D⟩ (.inRegion (opsOf r7) [1]::K)) ba) (G (fb.at ⟨T,D⟩ (.inRegion (opsOf r6) []::.code r7::K)) ba) w:=by refine⟨3,?_⟩;rw[MI];refine Xe rfl λb _=>?_;rw[stepG_region_end];refine⟨⟨rfl,rfl⟩,Xe rfl λk _=>?_⟩;rw[stepG_region];refine⟨⟨rfl,rfl⟩,Xe rfl λa _=>?_⟩;have c:=SQ (D:=D) l p n o m a;rw[tg.2.2.2.2];show(stepG WG WM (G (fb.at ⟨T,D⟩ (.inRegion (opsOf r7) (0::[1])::K)) ba) _).goes _;rw[stepG_value vg.1 (by simp[Xg,vg.2.2.2]) hk c.1];unfold listed;rw[c.2,seen_none];refine⟨⟨rfl,rfl⟩,λi _=>?_⟩;show G (fb.at ((⟨T,D⟩:Act).put qI.dst _) _) _=_;rw[vg.2.2.1];rfl
theorem Qa(hk:fb.kind≠.early){d b e c f:WL}(a:T[20]?=WH (oN d b e c f))(w:WQ):stepG WG WM (G (fb.at ⟨T,D⟩ (.inRegion (opsOf r7) [1]::K)) ba) w=.spawn (G (fb.at ⟨T,D⟩ (.inRegion (opsOf r7) []::K)) ba) (born WG (call131 d b e c f)) w #[]:=by
 have g:(⟨T,D⟩:Act).eval (.tmp 20)=oN d b e c f:=by simp[W3,WN,a]
 have h:(execOp (⟨T,D⟩:Act).eval sZ).run WG w=.ok (.spawn (call131 d b e c f)) w:=by unfold execOp;simp only[tg.2.1];simp[go_sem,resolve,a,oN,call131]
 have i:(execOp (⟨T,D⟩:Act).eval sZ).events WG w #[]=#[]:=by unfold execOp;simp only[tg.2.1];simp[go_sem,resolve,a,oN]
 rw[stepG_spawn tg.1 (by simp[Xg,tg.2.2.2.1]) hk h rfl];unfold listed;rw[i,seen_none,tg.2.2.1];rfl
end
end
end Go.Proofs.YtldeiiffabfmeaaGreatDoor
namespace Go.Rel
section
variable{ok:ak}{ρ ρ1:ax}
mutual theorem ar.narrow(hl:ρ.le ρ1)(hf:∀{a b b'},ρ1 a b->ρ1 a b'->b=b')(hh:¬ok.cX):∀{v v'' v':WL},ar ok ρ1 v v''->ar ok ρ v v'->ar ok ρ v v''|_,_,_,.bool b,_=>.bool b|_,_,_,.int k n,_=>.int k n|_,_,_,.string s,_=>.string s|_,_,_,.fY,_=>.fY|_,_,_,.ptr h1,.ptr h=>.ptr (h1.shrink hl hf h)|_,_,_,.dZ n c,_=>.dZ n c|_,_,_,.slice h1 n c,.slice h _ _=>.slice (h1.shrink hl hf h) n c|_,_,_,.slice h1 _ _,.dead _=>.dead _|_,_,_,.dead a,_=>.dead a|_,_,_,.gx,_=>.gx|_,_,_,.map h1,.map h=>.map (by have:=hf (hl _ _ h) h1;exact this▸h)|_,_,_,.map h1,.iP hx _=>absurd hx hh|_,_,_,.func f1 hx hy,.func hf' hx' hy'=>.func hf' (aP.narrow hl hf hh hx hx') (aP.narrow hl hf hh hy hy')|_,_,_,.bD h,_=>.bD h|_,_,_,.nilIface,_=>.nilIface|_,_,_,.agg hx,.agg hx'=>.agg (aP.narrow hl hf hh hx hx')|_,_,_,.tuple hx,.tuple hx'=>.tuple (aP.narrow hl hf hh hx hx')|_,_,_,.iP hx r,_=>absurd hx hh|_,_,_,.iface t h hn,_=>.iface t h hn|_,_,_,.tag n et e h,_=>.tag n et e h theorem aP.narrow(hl:ρ.le ρ1)(hf:∀{a b b'},ρ1 a b->ρ1 a b'->b=b')(hh:¬ok.cX):∀{v v'' v':List WL},aP ok ρ1 v v''->aP ok ρ v v'->aP ok ρ v v''|_,_,_,.nil,_=>.nil|_,_,_,.cons h hs,.cons h' hs'=>.cons (ar.narrow hl hf hh h h') (aP.narrow hl hf hh hs hs')end
theorem cO.narrow(e:ρ.le ρ1)(f:∀{a b i},ρ1 a b->ρ1 a i->b=i)(g:¬ok.cX){x c x':List MapEntry}(d:cO ok ρ1 x c)(h:cO ok ρ x x'):cO ok ρ x c:=by induction d generalizing x' with|nil=>exact .nil|cons d _ j=>cases h with|cons h hs=>exact .cons ⟨d.key.narrow e f g h.key,d.val.narrow e f g h.val,d.born⟩ (j hs)
theorem ft.narrow(f:ρ.le ρ1)(j:∀{a b m},ρ1 a b->ρ1 a m->b=m)(k:¬ok.cX){o e p:Obj}(n:ft ok ρ1 o e)(h:ft ok ρ o p):ft ok ρ o e:=by cases n with|cells g t fr=>(cases h with|cells d _ _=>exact .cells (aP.narrow f j k g d) t fr)|map g c=>(cases h with|map d _=>exact .map (g.narrow f j k d) c)|number q l=>cases h with|number i _=>exact .number (q.shrink f j i) l
theorem bh.narrow(g:ρ.le ρ1)(e:¬ok.cX){wh wh1 w h:WQ}(a:bh ok ρ1 wh1 w)(c:bh ok ρ wh h)(j:∀b,b<wh.heap.size->wh1.heap[b]?=wh.heap[b]?):bh ok ρ wh w:=by refine⟨c.inj,⟨c.gs.1,a.gs.2⟩,λx=>absurd x e,λ{b k}d=>?_,a.out⟩;obtain⟨o,m,e1,e2,e3⟩:=a.obj (g _ _ d);obtain⟨p,l,f,n,i⟩:=c.obj d;rw[j b (c.lt d).1,f]at e1;cases e1;exact⟨_,_,f,e2,e3.narrow g a.inj.fn e i⟩
end
end Go.Rel
namespace Go.Proofs.YtldeiiffabfmeaaGreatDoor
section
open Go.Conc Go.ConcN Go.RowKit Go.Conc.Lib Go.ConcR.Gen Go.ConcN.Gen Go.Rel
open Go.ConcR(KK wgBlock WgAt stA smA rd wr mk Payload DC0 ofEvent_cell)
structure Ph where
 ok:ak
 okW:ak
 Wg:Nat
 C:Nat
 R:Nat
 n:Nat
 n0:Nat
 N0:Nat
 w1:WQ
 Still:Nat->Prop
 Old:Loc->Prop
 RS:Nat->Array WL->WQ->Prop
 aX:ax
 wh:WQ
 pa:Xq
 pb:Nat
 x0:Array WL
 t0:WX
noncomputable def Ph.J(X:Ph):dU:=lV X.Wg X.C X.R X.n X.n0 X.N0 X.N0 X.w1 X.Still X.Old X.okW X.RS
def Ph.kP(X:Ph):ak:=kx X.ok X.Wg X.R X.n
def Ph.iQ(X:Ph):ax:=lH X.aX X.wh.heap.size X.pb X.C
def Ph.gP(X:Ph):WQ:=dy X.wh X.pa
def Ph.N(X:Ph):Nat:=X.wh.heap.size
structure Ph.Ok(X:Ph):Prop where
 b0:me X.ok
 bW:wH X.okW
 eN:∀j,j<=X.n->jJ WG X.J j
 Qv:∃w0,bh X.kP X.iQ X.gP w0
 Od:g9 X.kP X.iQ
 tags:X.kP.tags=X.okW.tags
 bM:X.kP.bM=X.okW.bM
 Oz:¬X.okW.cX
 Ci:X.kP.gs=X.okW.gs
 By:X.kP.old=X.okW.old
 rs:∀i x w τ d,X.RS i x w->X.RS i x (w.re τ d)
 Ac:∃fr0,X.ok.old.heap[0]?=WH (.cells X.x0 X.t0 fr0)/\fr0.2<=X.x0.size
 x0:∀σ:ax,aG X.okW σ X.x0 X.x0
 tJ:X.n<2147483647
 pa:∃x,X.aX X.pa.block x
def ni(k:Nat):WL:=.iface 1000000 (.int .i64 k)
noncomputable def K7:List Xw:=.inBlock 1::.code r8::KL
def fV(X:Ph)(rd:WL)(i:Nat)(f:Nat->WL)(k:List Xw):WT:=(base 109).at ⟨sT (.pointer (WH X.pa)) rd (.pointer (WH ⟨X.N,0,WJ⟩)) (.pointer (WH ⟨X.N+2,0,WJ⟩)) (ni 0) X.n i f,[]⟩ k
def LF(X:Ph)(f:Nat->WL):Prop:=∀k,∃u,ar X.ok X.aX (f k) u
theorem Ph.lift{X:Ph}(B0:me X.ok){v:WL}(h:∃u,ar X.ok X.aX v u):∃u,ar X.kP X.iQ v u:=let⟨u,a⟩:=h;⟨u,a.lift (ug B0) (λ_ _ h=>.inl h)⟩
theorem Cr{f:WT}{k:List Xw}(a:f.mode=.run)(c:f.todo=k)(b:f.roundOf=WJ)(hd:f.defers=[]):f=f.at ⟨f.tmps,[]⟩ k:=by obtain⟨fn,tmps,todo,defers,mode,kind,round⟩:=f;simp only at a c b hd;subst a c b hd;rfl
section
variable{X:Ph}{j rb ro c:Nat}{ρ0:ax}{ba:List WT}{s:Sn}{f:WT}{fv:Nat->WL}{ent:jo}
theorem Im(H:X.Ok)(hj:j<X.n)(hw:uV X.okW X.n X.RS j (.pointer (WH ⟨X.N,0,WJ⟩)) (.pointer (WH ⟨X.N+4,0,WJ⟩)) (.pointer (WH ⟨X.N+2,0,WJ⟩)) (.pointer (WH ⟨X.N+3,0,WJ⟩)) (mg (de X.gP j ent) X.x0 X.t0))(O:X.iQ.le ρ0)(hf:LF X fv)(S:∃x,X.aX rb x)(aK:∃u,ar X.ok X.aX (.slice ent.ka ent.kn ent.kc) u)(h:iR X.kP WG X.J j ρ0 (de X.gP j ent) 0 eK ba (fV X (.slice (WH ⟨rb,ro,WJ⟩) X.n c) j (fR fv rb ro j (X.N+3) ent) (.inRegion (opsOf r6) [0]::K6)) s f)(sl:Option (Nat×Nat)):∃s' aA f' af,bY WG s sl s' aA/\iR X.kP WG X.J (j+1) X.iQ X.gP 0 eK ba (fV X (.slice (WH ⟨rb,ro,WJ⟩) X.n c) j af (.inRegion (opsOf r7) []::K7)) s' f'/\LF X af:=by
 have A:=H.eN j (by omega);have aj:mO≠CTag.blk:=by simp
 have L:=h.rel.tmps;have ac:f.tmps.size=24:=L.size.symm;have av:f=f.at ⟨f.tmps,[]⟩ (.inRegion (opsOf r6) [0]::K6):=Cr h.rel.mode h.rel.todo h.rel.lq h.plain.defers;have M:f.kind≠.early:=h.rel.early;obtain⟨u6,g6,v6⟩:=kV L (k:=6) (v:=ni 0) rfl;have al:X.kP.bM=1000000:=H.b0.bM;have e6:u6=.pointer (WH ⟨X.Wg,0,WJ⟩):=by have:=yp (k:=0) (by rw[al];exact v6);rw[this];rfl
 obtain⟨_,g2,v2⟩:=kV L (k:=2) (v:=.pointer (WH ⟨X.N,0,WJ⟩)) rfl;obtain⟨_,g5,v5⟩:=kV L (k:=5) (v:=.pointer (WH ⟨X.N+2,0,WJ⟩)) rfl;obtain⟨_,g7,v7⟩:=kV L (k:=7) (v:=.pointer (WH ⟨X.N+3,0,WJ⟩)) rfl;obtain⟨_,g8,v8⟩:=kV L (k:=8) (v:=.pointer (WH ⟨X.N+4,0,WJ⟩)) rfl;subst e6;obtain⟨⟨q,_,_⟩,rfl,r2,rfl,rfl⟩:=m7 v2;obtain⟨⟨C',_,_⟩,rfl,ak,rfl,rfl⟩:=m7 v5;obtain⟨⟨R,_,_⟩,rfl,an,rfl,rfl⟩:=m7 v7;obtain⟨⟨Q,_,_⟩,rfl,ao,rfl,rfl⟩:=m7 v8;simp only at r2 ak an ao;have aa:=h.qq;rw[av]at aa;obtain⟨s1,aB,a1,q1,c1,b1,p1⟩:=Hu A h.nX aa (PF (K:=K6) M g6 s.w h.nX.live) sl;obtain rfl:=p1 s1.w c1.live;have t2:(f.tmps.setIfInBounds 19 (.tuple #[]))[2]?=WH (.pointer (WH ⟨q,0,WJ⟩)):=by rw[WR (by decide)];exact g2
 have t5:(f.tmps.setIfInBounds 19 (.tuple #[]))[5]?=WH (.pointer (WH ⟨C',0,WJ⟩)):=by rw[WR (by decide)];exact g5
 have t6:(f.tmps.setIfInBounds 19 (.tuple #[]))[6]?=WH (.pointer (WH ⟨X.Wg,0,WJ⟩)):=by rw[WR (by decide)];exact g6
 have t7:(f.tmps.setIfInBounds 19 (.tuple #[]))[7]?=WH (.pointer (WH ⟨R,0,WJ⟩)):=by rw[WR (by decide)];exact g7
 have t8:(f.tmps.setIfInBounds 19 (.tuple #[]))[8]?=WH (.pointer (WH ⟨Q,0,WJ⟩)):=by rw[WR (by decide)];exact g8
 obtain⟨s2,aM,a2,q2,c2,b2,p2,_⟩:=jF A aj (K8 (Wg:=X.Wg) (D:=[]) (K:=K7) (ba:=ba) M t6 t2 t8 t5 t7 s1.w) c1 b1 aB;obtain rfl:=p2 s2.w c2.live;obtain⟨s3,bj,d3,ae,q3,c3,b3,_,a8⟩:=aZ (ok:=X.kP) (ρ0:=ρ0) (wh0:=de X.gP j ent) (d0:=0) (a:=G _ ba) A rfl aj s2 ⟨c2,b2⟩ aM;have am:((f.tmps.setIfInBounds 19 (.tuple #[])).setIfInBounds 20 (oN (.pointer (WH ⟨X.Wg,0,WJ⟩)) (.pointer (WH ⟨q,0,WJ⟩)) (.pointer (WH ⟨Q,0,WJ⟩)) (.pointer (WH ⟨C',0,WJ⟩)) (.pointer (WH ⟨R,0,WJ⟩))))[20]?=WH (oN (.pointer (WH ⟨X.Wg,0,WJ⟩)) (.pointer (WH ⟨q,0,WJ⟩)) (.pointer (WH ⟨Q,0,WJ⟩)) (.pointer (WH ⟨C',0,WJ⟩)) (.pointer (WH ⟨R,0,WJ⟩))):=by simp[ac]
 have az:=Qa (D:=[]) (K:=K7) (ba:=ba) M am (s3.w.at d3);have K:zD X.kP WG X.J j ρ0 X.iQ X.gP (s3.w.at d3) ⟨ρ0.on (fJ (de X.gP j ent)),[qS.at ⟨mj .nilFunc (.pointer (WH ⟨X.N,0,WJ⟩)) (.pointer (WH ⟨X.N+4,0,WJ⟩)) (.pointer (WH ⟨X.N+2,0,WJ⟩)) (.pointer (WH ⟨X.N+3,0,WJ⟩)),[]⟩ [.code vF]],mg (de X.gP j ent) X.x0 X.t0,(s3.w.at d3).heap.size⟩ 8 (born WG (call131 (.pointer (WH ⟨X.Wg,0,WJ⟩)) (.pointer (WH ⟨q,0,WJ⟩)) (.pointer (WH ⟨Q,0,WJ⟩)) (.pointer (WH ⟨C',0,WJ⟩)) (.pointer (WH ⟨R,0,WJ⟩)))):=by have U:=(c3.at d3).cy.mem;obtain⟨aC,y,Y⟩:=H.Ac;have ad:0<X.kP.old.heap.size:=(WU.1 y).1;have V:(s3.w.at d3).heap[0]?=WH (.cells X.x0 X.t0 aC):=(U.aJ 0 ad).trans y;(have ap:0<X.kP.gs:=by show 0<X.ok.gs;rw[H.b0.gs];decide);have F:ρ0 0 0:=U.mv H.b0.cU 0 ap;(have I:fJ (de X.gP j ent) 0=WM:=by obtain⟨o,Q,e1,e2,e3⟩:=U.dh.obj F;rw[V]at e2;cases e2;cases e3 with|cells=>exact vu.2 ⟨_,_,_,e1⟩);have B:=Jw (ok2:=X.okW) U.dh H.tags H.bM ⟨H.b0.cX,H.Oz⟩ H.Ci H.By ap V Y (H.x0 _);(have be:(de X.gP j ent).heap.size=X.gP.heap.size+2:=by show((X.gP.heap.push _).push _).size=_;simp);(have p:∀b,b<X.gP.heap.size->(de X.gP j ent).heap[b]?=X.gP.heap[b]?:=λb E=>by show((X.gP.heap.push _).push _)[b]?=_;rw[WI,WI,if_neg (by simp;omega),if_neg (by omega)]);have bf:X.gP.heap.size=X.N+3:=mR;obtain⟨w0,a6⟩:=H.Qv;have W:=bh.narrow (ok:=X.kP) O H.b0.cX U.dh a6 p;have m:∀{b:Nat}{x:Array WL}{t:WX}{fr:Nat×Nat},(de X.gP j ent).heap[b]?=WH (.cells x t fr)->fJ (de X.gP j ent) b=WM:=λe=>vu.2 ⟨_,_,_,e⟩;have rN:fJ (de X.gP j ent) X.N=WM:=m (by rw[p _ (by omega)];exact uy);have a9:fJ (de X.gP j ent) (X.N+2)=WM:=m (by rw[p _ (by omega)];exact tO);have a5:fJ (de X.gP j ent) (X.N+3)=WM:=m (x:=#[.int .i64 j]) (t:=3) (fr:=(0,0)) (by show((X.gP.heap.push _).push _)[_]?=_;rw[WI,WI,if_neg (by simp;omega),if_pos (by omega)]);have aF:fJ (de X.gP j ent) (X.N+4)=WM:=m (x:=ent.cells) (t:=173) (fr:=(0,0)) (by show((X.gP.heap.push _).push _)[_]?=_;rw[WI,if_pos (by simp;omega)]);(have r:aG X.okW (ρ0.on (fJ (de X.gP j ent))) (mj .nilFunc (.pointer (WH ⟨X.N,0,WJ⟩)) (.pointer (WH ⟨X.N+4,0,WJ⟩)) (.pointer (WH ⟨X.N+2,0,WJ⟩)) (.pointer (WH ⟨X.N+3,0,WJ⟩))) (mj (.pointer (WH ⟨X.Wg,0,WJ⟩)) (.pointer (WH ⟨q,0,WJ⟩)) (.pointer (WH ⟨Q,0,WJ⟩)) (.pointer (WH ⟨C',0,WJ⟩)) (.pointer (WH ⟨R,0,WJ⟩))):=by have u:=ar.undef (ok:=X.okW) (ρ:=ρ0.on (fJ (de X.gP j ent)));exact .cons (.bD trivial) (.cons (.ptr ⟨⟨rN,r2⟩,rfl,rfl⟩) (.cons (.ptr ⟨⟨aF,ao⟩,rfl,rfl⟩) (.cons (.ptr ⟨⟨a9,ak⟩,rfl,rfl⟩) (.cons (.ptr ⟨⟨a5,an⟩,rfl,rfl⟩) (.cons u (.cons u (.cons u (.cons u (.cons u (.cons u (.cons u (.cons u (.cons u (.cons u (.cons u (.cons u (.cons u (.cons u (.cons u (.cons u (.cons u (.cons u (.cons u (.cons u (.cons u (.cons u (.cons u (.cons u (.cons u (.cons u .nil)))))))))))))))))))))))))))))));(have T:g9 X.okW (ρ0.on (fJ (de X.gP j ent))):=by intro _ g hg;(have:g=0:=by have aq:g<X.okW.gs:=hg;rw[<-H.Ci]at aq;have e:X.kP.gs=1:=H.b0.gs;omega);subst this;exact⟨I,F⟩);refine⟨rfl,B,T,λb b' E=>⟨b,E.2⟩,λb b' E=>Oo E.1,W,H.Od,λb b' E=>⟨b,O _ _ E⟩,λb b' E P=>?_,?_⟩;(·obtain⟨x,t,fr,e⟩:=P;obtain⟨o,o2,e1,e2,e3⟩:=W.obj E;rw[e]at e2;cases e2;cases e3 with|cells=>exact uu ⟨_,_,_,e1⟩);·refine .pre (Lj H.bW H.rs hw ⟨_,_,_,r,B,T⟩) ?_;refine DY (λ_ _ h=>h) (λ_ _ _ h=>h) (λg w bg hg _=>?_) 8 _ _ (Uq X.Wg _ _ _ _ _);refine⟨_,[],hg,.one ⟨rfl,rfl,?_,r,rfl,rfl,rfl,rfl,rfl,show CallKind.deferred≠CallKind.early by decide⟩,rfl,rfl⟩;intro it z;simp only[Frame.at,Xp]at z;subst z;trivial
 have l:∀k,k≠7->k≠8->∃u,ar X.ok X.aX (fR fv rb ro j (X.N+3) ent k) u:=by intro k k7 k8;simp only[fR,dz,k7,k8,if_false];split;(·obtain⟨u,hu⟩:=aK;exact⟨.agg ⟨[.int .i64 ent.ah,.bool ent.read,u,.bool ent.b0,.bool ent.b1,.bool ent.b2,.bool ent.b3]⟩,.agg (.cons (.int _ _) (.cons (.bool _) (.cons hu (.cons (.bool _) (.cons (.bool _) (.cons (.bool _) (.cons (.bool _) .nil)))))))⟩);·split;(·obtain⟨x,P⟩:=S;exact⟨.pointer (WH ⟨x,ro+j*7,WJ⟩),.ptr ⟨P,rfl,rfl⟩⟩);·split;(·exact⟨_,.int _ _⟩);·split;(·exact⟨_,.bool _⟩);·exact hf k
 obtain⟨s4,q4,c4,b4,_⟩:=Jd (H.eN (j+1) (by omega)).stat c3 b3 a8 az K;refine⟨s4,ae,_,λk=>if k=7\/k=8\/k=20 then .nilFunc else if k=19 then .tuple #[]else fR fv rb ro j (X.N+3) ent k,(q1.trans q2).trans (q3.trans q4),⟨c4,b4,?_,⟨rfl,h.plain.kind⟩⟩,?_⟩;·refine⟨h.rel.fn,rfl,?_,?_,rfl,rfl,rfl,rfl,rfl,h.rel.early⟩;(·intro it z;simp only[fV,Frame.at,K7,KL,List.mem_cons,List.not_mem_nil,or_false]at z;rcases z with rfl|rfl|rfl|rfl|rfl|rfl<;>trivial);·have i:∀{v v':WL},ar X.kP ρ0 v v'->(∃u,ar X.kP X.iQ v u)->ar X.kP X.iQ v v':=λh⟨u,hu⟩=>ar.narrow (ok:=X.kP) O c3.cy.mem.dh.inj.fn H.b0.cX h hu;(have Z:∃u,ar X.kP X.iQ (.slice (WH ⟨rb,ro,WJ⟩) X.n c) u:=by obtain⟨x,P⟩:=S;exact⟨.slice (WH ⟨x,ro,WJ⟩) X.n c,ar.slice (a:=⟨rb,ro,WJ⟩) (a':=⟨x,ro,WJ⟩) ⟨.inl P,rfl,rfl⟩ _ _⟩);obtain⟨v0,v1,v2,v3,v4,v5,v6,v7,v8,v9,bc,aY,ax,a7,aU,aS,aW,a3,aR,aE,a4,ay,aN,bd,eT⟩:=zw f.tmps ac;have ai:=L;rw[eT]at ai g7 g8;simp only[Xc,W9,W8,W4]at g7 g8;subst g7 g8;show aG X.kP X.iQ _ ((f.tmps.setIfInBounds 19 (.tuple #[])).setIfInBounds 20 _);rw[eT];have d:aP X.kP ρ0 (sT (.pointer (WH X.pa)) (.slice (WH ⟨rb,ro,WJ⟩) X.n c) (.pointer (WH ⟨X.N,0,WJ⟩)) (.pointer (WH ⟨X.N+2,0,WJ⟩)) (ni 0) X.n j (fR fv rb ro j (X.N+3) ent)).toList [v0,v1,v2,v3,v4,v5,v6,.pointer (WH ⟨R,0,WJ⟩),.pointer (WH ⟨Q,0,WJ⟩),v9,bc,aY,ax,a7,aU,aS,aW,a3,aR,aE,a4,ay,aN,bd]:=ai;simp only[sT]at d;obtain⟨h0,d⟩:=bm d;obtain⟨h1,d⟩:=bm d;obtain⟨h2,d⟩:=bm d;obtain⟨h3,d⟩:=bm d;obtain⟨h4,d⟩:=bm d;obtain⟨h5,d⟩:=bm d;obtain⟨h6,d⟩:=bm d;obtain⟨h7,d⟩:=bm d;obtain⟨h8,d⟩:=bm d;obtain⟨h9,d⟩:=bm d;obtain⟨aQ,d⟩:=bm d;obtain⟨au,d⟩:=bm d;obtain⟨aO,d⟩:=bm d;obtain⟨aw,d⟩:=bm d;obtain⟨aD,d⟩:=bm d;obtain⟨bb,d⟩:=bm d;obtain⟨aH,d⟩:=bm d;obtain⟨a0,d⟩:=bm d;obtain⟨aI,d⟩:=bm d;obtain⟨bi,d⟩:=bm d;obtain⟨am,d⟩:=bm d;obtain⟨aT,d⟩:=bm d;obtain⟨aL,d⟩:=bm d;obtain⟨aV,d⟩:=bm d;simp only[fV,Frame.at,sT,Xi];exact(.cons (i h0 (by obtain⟨x,P⟩:=H.pa;exact⟨.pointer (WH ⟨x,X.pa.off,X.pa.spot⟩),ar.ptr (a':=⟨x,X.pa.off,X.pa.spot⟩) ⟨.inl P,rfl,rfl⟩⟩)) (.cons (i h1 Z) (.cons (i h2 ⟨.pointer (WH ⟨X.pb,0,WJ⟩),.ptr ⟨.inr (.inl ⟨rfl,rfl⟩),rfl,rfl⟩⟩) (.cons (i h3 (Ph.lift H.b0 (l 3 (by decide) (by decide)))) (.cons (i h4 (Ph.lift H.b0 (l 4 (by decide) (by decide)))) (.cons (i h5 ⟨.pointer (WH ⟨X.C,0,WJ⟩),.ptr ⟨.inr (.inr ⟨rfl,rfl⟩),rfl,rfl⟩⟩) (.cons (i h6 ⟨_,ar.tag (ok:=X.kP) 0 al.symm rfl trivial⟩) (.cons (.bD trivial) (.cons (.bD trivial) (.cons (i h9 (Ph.lift H.b0 (l 9 (by decide) (by decide)))) (.cons (i aQ (Ph.lift H.b0 (l 10 (by decide) (by decide)))) (.cons (i au (Ph.lift H.b0 (l 11 (by decide) (by decide)))) (.cons (i aO Z) (.cons (i aw ⟨_,.int _ _⟩) (.cons (i aD ⟨_,.int _ _⟩) (.cons (i bb (Ph.lift H.b0 (l 15 (by decide) (by decide)))) (.cons (i aH (Ph.lift H.b0 (l 16 (by decide) (by decide)))) (.cons (i a0 (Ph.lift H.b0 (l 17 (by decide) (by decide)))) (.cons (i aI (Ph.lift H.b0 (l 18 (by decide) (by decide)))) (.cons (.tuple .nil) (.cons (.bD trivial) (.cons (i aT (Ph.lift H.b0 (l 21 (by decide) (by decide)))) (.cons (i aL (Ph.lift H.b0 (l 22 (by decide) (by decide)))) (.cons (i aV (Ph.lift H.b0 (l 23 (by decide) (by decide)))) .nil))))))))))))))))))))))))
 ·intro k;show∃u,ar X.ok X.aX (if k=7\/k=8\/k=20 then .nilFunc else if k=19 then .tuple #[]else fR fv rb ro j (X.N+3) ent k) u;split;(·exact⟨.nilFunc,.bD trivial⟩);·split;(·exact⟨_,.undef⟩);·rename_i h1 h2;exact l k (λe=>h1 (.inl e)) (λe=>h1 (.inr (.inl e)))
end
section
variable{X:Ph}{j:Nat}{ρ0:ax}{ba:List WT}{s:Sn}{f:WT}{fv:Nat->WL}{rd:WL}
theorem xw(H:X.Ok):Fits X.kP WG:=Io H.b0.fits
theorem yu(H:X.Ok):gB X.kP WG:=Uu H.b0.dF
theorem FF{v:WL}{k:Nat}(h:LF X fv)(a:∃u,ar X.ok X.aX v u):LF X (dz fv k v):=by
 intro i;unfold dz;split;·exact a
 ·exact h i
theorem QL(H:X.Ok)(U:j<X.n)(i:X.iQ.le ρ0)(O:LF X fv)(h:iR X.kP WG X.J (j+1) ρ0 X.gP 0 eK ba (fV X rd j fv (.inRegion (opsOf r7) []::K7)) s f)(sl:Option (Nat×Nat)):∃s' p ρ0' f' b,bY WG s sl s' p/\iR X.kP WG X.J (j+1) ρ0' X.gP 0 eK ba (fV X rd (j+1) b (.code lb::KL)) s' f'/\X.iQ.le ρ0'/\LF X b:=by
 have A:=H.eN (j+1) (by omega);have F:=xw H;have C:=yu H;have B:=C.cE;have ne:eK≠CTag.blk:=by simp
 have M:∃fn,Tryz.prog.funcs[(base 109).fn]?=WH fn:=⟨_,Xb⟩;have K:=blank (ok:=X.kP) H.b0.bM;have r:=wV X.kP.gs;have:=H.tJ;obtain⟨s1,o,ρ1,W,q1,P,l1⟩:=gZ A F B ne h (fr1:=fV X rd j fv K7) rfl (dw trivial) sl;obtain⟨s2,k,z,T,q2,x,R⟩:=gZ A F B ne P (fr1:=fV X rd j fv (.code r8::KL)) rfl (dw trivial) o;obtain⟨s3,c,Q,S,V,v,u,t,D⟩:=vf (X:=λa=>a=⟨sT (.pointer (WH X.pa)) rd (.pointer (WH ⟨X.N,0,WJ⟩)) (.pointer (WH ⟨X.N+2,0,WJ⟩)) (ni 0) X.n (j+1) (dz fv 21 (.int .i64 ((j:Int)+1))),[]⟩) (wh':=X.gP) A F C ne (iz K r.2.2.1) M (λG d=>aF (KC _ _ _ _ _ X.n j fv (X.gP.re G d) (by omega)) λe a w m=>⟨m.1,m.2.1,m.2.2⟩) x k;subst D;obtain⟨I,g,l,y,E,L,q⟩:=gZ A F B ne u (fr1:=fV X rd (j+1) (dz fv 21 (.int .i64 ((j:Int)+1))) (.code lb::KL)) rfl (dw trivial) c;exact⟨I,g,l,y,_,(q1.trans q2).trans (v.trans E),L,i.trans ((l1.trans R).trans (t.trans q)),FF O ⟨_,.int _ _⟩⟩
noncomputable def K9:List Xw:=[.code (.seq lP .ret)]
theorem VN(H:X.Ok)(i:X.iQ.le ρ0)(Y:LF X fv)(h:iR X.kP WG X.J X.n ρ0 X.gP 0 eK ba (fV X rd X.n fv (.code lb::KL)) s f)(sl:Option (Nat×Nat)):∃s' r ρ0' f' b,bY WG s sl s' r/\iR X.kP WG X.J X.n ρ0' X.gP 0 eK ba (fV X rd X.n b (.inRegion (opsOf r9) [0]::K9)) s' f'/\X.iQ.le ρ0'/\LF X b:=by
 have A:=H.eN X.n (W5 _);have F:=xw H;have C:=yu H;have B:=C.cE;have ne:eK≠CTag.blk:=by simp
 have W:∃fn,Tryz.prog.funcs[(base 109).fn]?=WH fn:=⟨_,Xb⟩;have K:=blank (ok:=X.kP) H.b0.bM;have x:=wV X.kP.gs;rw[GK]at h;obtain⟨s1,c,ρ1,f1,q1,h1,l1⟩:=gZ A F B ne h (fr1:=fV X rd X.n fv (.code r4::.code (.seq (.cond (.tmp 15) .skip (.exit 0)) (.seq (.block 1 (.seq r5 (.seq r6 r7))) r8))::KL)) rfl (dw trivial) sl;obtain⟨s2,l,u,f2,a2,q2,I,l2,S⟩:=vf (X:=λa=>a=⟨sT (.pointer (WH X.pa)) rd (.pointer (WH ⟨X.N,0,WJ⟩)) (.pointer (WH ⟨X.N+2,0,WJ⟩)) (ni 0) X.n X.n (dz fv 15 (.bool WO)),[]⟩) (wh':=X.gP) A F C ne (iz K x.1) W (λQ d=>aF (Ez _ _ _ _ _ X.n X.n fv (X.gP.re Q d)) λe a w p=>⟨p.1,by rw[p.2.1];simp,p.2.2⟩) h1 c;subst S;obtain⟨s3,m,v,f3,D,z,y⟩:=gZ A F B ne I (fr1:=fV X rd X.n (dz fv 15 (.bool WO)) (.code (.cond (.tmp 15) .skip (.exit 0))::.code (.seq (.block 1 (.seq r5 (.seq r6 r7))) r8)::KL)) rfl (dw trivial) l;obtain⟨s4,g,V,f4,q4,h4,U⟩:=gZ A F B ne z (fr1:=fV X rd X.n (dz fv 15 (.bool WO)) (.code (.exit 0)::.code (.seq (.block 1 (.seq r5 (.seq r6 r7))) r8)::KL)) rfl (dw trivial) m;obtain⟨s5,q,O,f5,R,L,E⟩:=gZ A F B ne h4 (fr1:=fV X rd X.n (dz fv 15 (.bool WO)) [.code tU]) rfl (dw trivial) g;obtain⟨s6,t,Z,f6,q6,P,G⟩:=gZ A F B ne L (fr1:=fV X rd X.n (dz fv 15 (.bool WO)) (.code r9::K9)) rfl (dw trivial) q;obtain⟨s7,o,k,f7,T,M,l7⟩:=gZ A F B ne P (fr1:=fV X rd X.n (dz fv 15 (.bool WO)) (.inRegion (opsOf r9) [0]::K9)) rfl (dw trivial) t;exact⟨s7,o,k,f7,_,((q1.trans q2).trans (D.trans q4)).trans ((R.trans q6).trans T),M,i.trans (((l1.trans l2).trans (y.trans U)).trans ((E.trans G).trans l7)),FF Y ⟨_,.bool _⟩⟩
end
structure EO(X:Ph)(ra:Option Xq)(rb ro:Nat)(ents:Nat->jo):Prop where
 ra:X.n≠0->ra=WH ⟨rb,ro,WJ⟩
 at':∀i,i<X.n->pg X.gP rb (ro+i*7) (ents i)
 rb:X.n≠0->∃x,X.aX rb x
 ka:∀i,i<X.n->∃u,ar X.ok X.aX (.slice (ents i).ka (ents i).kn (ents i).kc) u
 qX:∀i,i<X.n->uV X.okW X.n X.RS i (.pointer (WH ⟨X.N,0,WJ⟩)) (.pointer (WH ⟨X.N+4,0,WJ⟩)) (.pointer (WH ⟨X.N+2,0,WJ⟩)) (.pointer (WH ⟨X.N+3,0,WJ⟩)) (mg (de X.gP i (ents i)) X.x0 X.t0)
theorem rounds{X:Ph}(H:X.Ok){ra:Option Xq}{rb ro c:Nat}{ents:Nat->jo}(E:EO X ra rb ro ents):∀(m j:Nat),j+m=X.n->∀{ρ0:ax}{ba:List WT}{s:Sn}{f:WT}{fv:Nat->WL},X.iQ.le ρ0->LF X fv->iR X.kP WG X.J j ρ0 X.gP 0 eK ba (fV X (.slice ra X.n c) j fv (.code lb::KL)) s f->∀sl:Option (Nat×Nat),∃s' u ρ0' f' d,bY WG s sl s' u/\iR X.kP WG X.J X.n ρ0' X.gP 0 eK ba (fV X (.slice ra X.n c) X.n d (.inRegion (opsOf r9) [0]::K9)) s' f'/\X.iQ.le ρ0'/\LF X d|0,j,F,ρ0,ba,s,f,fv,b,t,h,sl=>by(obtain rfl:j=X.n:=by omega);exact VN H b t h sl|m+1,j,F,ρ0,ba,s,f,fv,b,t,h,sl=>by(have a:j<X.n:=by omega);(have e:X.n≠0:=by omega);have g:=E.ra e;rw[g]at h⊢;obtain⟨s1,i,ρ1,Q,q1,y,l1⟩:=Vn (H.eN j (by omega)) (xw H) (yu H) H.b0.bM a (E.at' j a) h sl;have k:X.gP.heap.size=X.N+3:=mR;rw[k]at y;obtain⟨s2,r,R,D,q2,M,o⟩:=Im (c:=c) H a (E.qX j a) (b.trans l1) t (E.rb e) (E.ka j a) y i;obtain⟨s3,w,z,P,L,G,x,C,l⟩:=QL H a (ax.le.refl _) o M r;rw[<-g]at x⊢;obtain⟨B,q,p,I,v,K,O,A⟩:=rounds H E m (j+1) (by omega) C l x w;exact⟨B,q,p,I,v,(q1.trans q2).trans (G.trans K),O,A⟩
section
variable{X:Ph}{ρ0:ax}{ba:List WT}{s:Sn}{f:WT}{fv:Nat->WL}{ra:Option Xq}{c:Nat}
theorem toLoop(H:X.Ok)(q:∃u,ar X.ok X.aX (.slice ra X.n c) u)(h:iR X.kP WG X.J 0 X.iQ X.gP 0 eK ba ((base 109).at ⟨sP (.pointer (WH X.pa)) (.slice ra X.n c) X.n X.N,[]⟩ [.code sx]) s f)(sl:Option (Nat×Nat)):∃s' t ρ0' f' g,bY WG s sl s' t/\iR X.kP WG X.J 0 ρ0' X.gP 0 eK ba (fV X (.slice ra X.n c) 0 g (.code lb::KL)) s' f'/\X.iQ.le ρ0'/\LF X g:=by
 have A:=H.eN 0 (XC _);have F:=xw H;have C:=yu H;have B:=C.cE;have ne:eK≠CTag.blk:=by simp
 have U:∃fn,Tryz.prog.funcs[(base 109).fn]?=WH fn:=⟨_,Xb⟩;have K:=blank (ok:=X.kP) H.b0.bM;have R:=F4 X.kP.gs;let b:Nat->WL:=λk=>if k=3 then W0 else if k=4 then .slice WJ 0 0 else if k=7 then W0 else if k=8 then W0 else if k=9 then .slice ra X.n c else if k=10 then .int .i64 X.n else if k=11 then .nilFunc else W0;obtain⟨s1,m,ρ1,f1,q1,Y,l1⟩:=gZ A F B ne h (fr1:=(base 109).at ⟨sP (.pointer (WH X.pa)) (.slice ra X.n c) X.n X.N,[]⟩ [.code (.seq r3 (.block 0 (.loop lb))),.code tU]) rfl (dw trivial) sl;obtain⟨s2,j,L,f2,q2,G,Z⟩:=gZ A F B ne Y (fr1:=(base 109).at ⟨sP (.pointer (WH X.pa)) (.slice ra X.n c) X.n X.N,[]⟩ [.code r3,.code (.block 0 (.loop lb)),.code tU]) rfl (dw trivial) m;obtain⟨s3,i,M,f3,a3,z,x,W,S⟩:=vf (X:=λa=>a=⟨sT (.pointer (WH X.pa)) (.slice ra X.n c) (.pointer (WH ⟨X.N,0,WJ⟩)) (.pointer (WH ⟨X.N+2,0,WJ⟩)) (ni 0) X.n 0 b,[]⟩) (wh':=X.gP) A F C ne (iz K R.2.2.2) U (λO d=>aF (Ww (.pointer (WH X.pa)) (.slice ra X.n c) (.pointer (WH ⟨X.N,0,WJ⟩)) (.pointer (WH ⟨X.N+2,0,WJ⟩)) (ni 0) W0 (.slice WJ 0 0) W0 W0 (.slice ra X.n c) (.int .i64 X.n) .nilFunc ra X.n c (X.gP.re O d) rfl) λe a w l=>⟨l.1,l.2.1,l.2.2⟩) G j;subst S;obtain⟨s4,p,E,f4,y,I,v⟩:=gZ A F B ne x (fr1:=fV X (.slice ra X.n c) 0 b [.code (.loop lb),.inBlock 0,.code tU]) rfl (dw trivial) i;obtain⟨Q,r,o,T,P,V,D⟩:=gZ A F B ne I (fr1:=fV X (.slice ra X.n c) 0 b (.code lb::KL)) rfl (dw trivial) p;refine⟨Q,r,o,T,b,((q1.trans q2).trans (z.trans y)).trans P,V,((l1.trans Z).trans (W.trans v)).trans D,λk=>?_⟩;show∃u,ar X.ok X.aX (if k=3 then W0 else if k=4 then .slice WJ 0 0 else if k=7 then W0 else if k=8 then W0 else if k=9 then .slice ra X.n c else if k=10 then .int .i64 X.n else if k=11 then .nilFunc else W0) u;repeat' split
 all_goals first|exact⟨_,.undef⟩|exact⟨_,.dZ _ _⟩|exact q|exact⟨_,.int _ _⟩|exact⟨.nilFunc,.bD trivial⟩
theorem waitAll(H:X.Ok)(h:iR X.kP WG X.J X.n ρ0 X.gP 0 eK ba (fV X (.slice ra X.n c) X.n fv (.inRegion (opsOf r9) [0]::K9)) s f)(sl:Option (Nat×Nat)):∃(E:Nat->Gh)(j:Array Xk)(w':WQ)(S:Option (Nat×Nat))(u:Trace)(q':Nat->Nat),(∃N,runNT WG N (crowd s.gs s.w sl) s.t=(.next (crowd j w' S),u))/\Leavers WG u j q'/\Past (λl=>X.Old l\/ShN X.Wg l) w'.heap.size u/\j[0]?=WH (G (f.at ⟨f.tmps.setIfInBounds 22 (.tuple #[]),[]⟩ (.inRegion (opsOf r9) []::K9)) ba)/\Mem X.kP X.J X.n E ρ0 X.gP w'/\(∀i,i<X.n->Out X.J i (E i) w'):=by
 have A:=H.eN X.n (W5 _);have U:=h.rel.tmps;have L:f=f.at ⟨f.tmps,[]⟩ (.inRegion (opsOf r9) (0::[])::K9):=Cr h.rel.mode h.rel.todo h.rel.lq h.plain.defers;obtain⟨u6,g6,v6⟩:=kV U (k:=6) (v:=ni 0) rfl;have C:X.kP.bM=1000000:=H.b0.bM;have e6:u6=.pointer (WH ⟨X.Wg,0,WJ⟩):=by have:=yp (k:=0) (by rw[C];exact v6);rw[this];rfl
 subst e6;have o:=h.qq;rw[L]at o;obtain⟨s1,p,y,q1,r1,hL,hP,b1,V,hM,hO,aa⟩:=Iy A (Anc:=lM kN X.Wg (f.at ⟨f.tmps,[]⟩ (.inRegion (opsOf r9) (0::[])::K9)) ba) (Stop:=λg _=>g=G (f.at ⟨f.tmps.setIfInBounds 22 (.tuple #[]),[]⟩ (.inRegion (opsOf r9) []::K9)) ba) (λg w Z=>HE g w Z) h.nX o (KB (K:=K9) h.rel.early g6 s.w h.nX.live) sl;obtain⟨m,hm⟩:=V;have W:Goes WG WM AtRel (λ_ _ es=>es=#[]) (λg w=>g=G (f.at ⟨f.tmps.setIfInBounds 22 (.tuple #[]),[]⟩ (.inRegion (opsOf r9) []::K9)) ba/\AtRel s1.w w) m y s1.w:=Bs (R:=RA 224 X.Wg) (I:=λw=>AtRel s1.w w) (λa b⟨d,e⟩hl=>by subst e;exact hl) (λa b O x=>atRel_trans _ _ _ x O) (λ_=>rfl) (λg w O x=>⟨O,x⟩) m y s1.w (atRel_refl _) hm;obtain⟨Y,M,a2,w2,r,t2,q2,z,T,b2,⟨rfl,d2,rfl⟩,Q,q⟩:=walk_beside (P:=WG) (Shun:=λl=>X.Old l\/ShN X.Wg l) (B:=s1.w.heap.size) (D:=λ_ _ es=>es=#[]) (λ_ _ es h e he=>by subst h;simp at he) (m+sumTo s1.gs.size q1) m s1.gs y s1.w p s1.t q1 (W5 _) b1 hL hP W;obtain⟨N1,F⟩:=r1;exact⟨s1.E,M,s1.w.at d2,r,t2,q2,⟨N1+Y,by rw[runNT_add,F];exact z⟩,Q,q,b2,hM.at d2,hO⟩
end
def Atom:WL->Prop|.bool _|.int _ _=>True|_=>False
def sv(b:Option Nat)(m k:Nat):WL:=.slice (b.map λx=>⟨x,0,WJ⟩) m k
def sV(Ab:Nat->List WL->Nat->List WL->Prop)(i:Nat)(x:Array WL)(w:WQ):Prop:=∃(hd:List WL)(m k:Nat)(cells:List WL)(b:Option Nat),x=(hd++[sv b m k]).toArray/\hd.length=5/\(∀v∈hd,Atom v)/\Ab i hd m cells/\(∀v∈cells,Atom v)/\(b=WJ->cells=[])/\∀a,b=WH a->w.heap[a]?=WH (.cells cells.toArray 229)/\cells≠[]
theorem GP{ok:ak}{ρ:ax}{v a:WL}(h:ar ok ρ v a)(b:Atom v):a=v:=by cases h<;>first|rfl|exact b.elim
theorem Eo{ok:ak}{ρ:ax}:∀{l y:List WL},aP ok ρ l y->(∀v∈l,Atom v)->y=l|[],_,h,_=>by cases h;rfl|v::l,_,h,a=>by cases h with|cons h hs=>rw[GP h (a v (by simp)),Eo hs λu b=>a u (by simp[b])]
theorem FW{ok:ak}{ρ:ax}{s:WL}:∀{l y:List WL},aP ok ρ (l++[s]) y->(∀v∈l,Atom v)->∃s',y=l++[s']/\ar ok ρ s s'|[],_,h,_=>(by cases h with|cons h hs=>cases hs;exact⟨_,rfl,h⟩)|v::l,_,h,a=>by cases h with|cons h hs=>obtain⟨s',rfl,b⟩:=FW hs λu c=>a u (by simp[c]);exact⟨s',by rw[GP h (a v (by simp))];rfl,b⟩
theorem Bu{ok:ak}{ρ:ax}:∀{l:List WL},(∀v∈l,Atom v)->aP ok ρ l l|[],_=>.nil|v::l,h=>by refine .cons ?_ (Bu λu a=>h u (by simp[a]));have:=h v (by simp);cases v<;>first|exact .bool _|exact .int _ _|exact this.elim
structure RD where
 hd:List WL
 m:Nat
 k:Nat
 cells:List WL
 b:Option Nat
structure yy(Ab:Nat->List WL->Nat->List WL->Prop)(E:Nat->Gh)(R:Nat)(w:WQ)(i:Nat)(r:RD):Prop where
 len:r.hd.length=5
 hd:∀v∈r.hd,Atom v
 ab:Ab i r.hd r.m r.cells
 atoms:∀v∈r.cells,Atom v
 row:∀k,k<6->w.cell? ⟨R,6*i+k,WJ⟩=(r.hd++[sv r.b r.m r.k])[k]?
 nil:r.b=WJ->r.cells=[]
 blk:∀c',r.b=WH c'->w.heap[c']?=WH (.cells r.cells.toArray 229)/\r.cells≠[]/\(E i).bs<=c'/\∃c,(E i).ρ c c'
theorem LY{X:Ph}{Ab:Nat->List WL->Nat->List WL->Prop}(B:X.RS=sV Ab){E:Nat->Gh}{ρ0:ax}{w:WQ}(K:Mem X.kP X.J X.n E ρ0 X.gP w){i:Nat}(hi:i<X.n)(N:Out X.J i (E i) w):∃r,yy Ab E X.R w i r:=by
 obtain⟨x,x',T,t,C,_,s⟩:=N;rw[B]at t;obtain⟨hd,m,k,cells,b,rfl,H,g,l,f,P,L⟩:=t;obtain⟨y⟩:=x';have p:aP X.okW (E i).ρ (hd++[sv b m k]) y:=C;obtain⟨s',rfl,hs⟩:=FW p g;have d:∀a,a<6->w.cell? ⟨X.R,6*i+a,WJ⟩=(hd++[s'])[a]?:=by intro a hk;have:=s a hk;(have j:(6*i<=6*i+a/\6*i+a<6*i+6):=by omega);have c:(if 6*i<=6*i+a/\6*i+a<6*i+6 then w.cell? ⟨X.R,6*i+a,WJ⟩else WJ)=(hd++[s']).toArray[a]?:=this;rw[if_pos j]at c;simpa using c
 cases b with|none=>(have e:s'=sv WJ m k:=by cases hs;rfl);subst e;exact⟨⟨hd,m,k,cells,WJ⟩,H,g,l,f,d,P,λD h=>by cases h⟩|some F=>obtain⟨e1,q⟩:=L F rfl;obtain⟨⟨D,_,_⟩,rfl,j,rfl,rfl⟩:=xW hs;simp only at j;obtain⟨o,U,I,Q,O⟩:=(K.rel i hi).obj j;rw[e1]at I;cases I;cases O with|@cells _ z S _ _ fr v=>obtain rfl:=v.nil rfl;obtain⟨z⟩:=z;have A:aP X.okW (E i).ρ cells z:=S;obtain rfl:=Eo A f;refine⟨⟨hd,m,k,z,WH D⟩,H,g,l,f,d,(λh=>by cases h),λc2 h=>?_⟩;cases h;refine⟨Q,q,Xs λG=>?_,F,j⟩;obtain⟨V,W,M,e2,u⟩:=K.nD i hi F D j G;rw[e1]at e2;simp only[W4,Obj.cells.injEq,Prod.mk.injEq]at e2;obtain⟨rfl,_,_,rfl⟩:=e2;(have:z.length=0:=by simpa using u);exact q (List.eq_nil_of_length_eq_zero this)
theorem Hy{d:Type}(f:Nat->List d)(n:Nat)(c:∀i,i<n->(f i).length=6):((Xf n).flatMap f).length=6*n/\∀i k,i<n->k<6->((Xf n).flatMap f)[6*i+k]?=(f i)[k]?:=by induction n with|zero=>exact⟨rfl,λi k hi=>by omega⟩|succ n e=>obtain⟨a,h⟩:=e λi hi=>c i (by omega);rw[List.range_succ,List.flatMap_append];simp only[List.flatMap_cons,List.flatMap_nil,List.append_nil];refine⟨by rw[List.length_append,a,c n (by omega)];omega,λi k hi hk=>?_⟩;rcases Xr i n with b|g;(·rw[W7 (by rw[a];omega)];exact h i k b hk);·(obtain rfl:i=n:=by omega);rw[W6 (by rw[a];omega),a];congr 1;omega
def mM(N:Nat)(r:Nat->RD)(i:Nat):List WL:=(r i).hd++[sv ((r i).b.map λ_=>N+3+i) (r i).m (r i).k]
def nz(N n:Nat)(r:Nat->RD):List WL:=(Xf n).flatMap (mM N r)
def xq(N n:Nat)(r:Nat->RD):List Obj:=.cells #[] 167::.cells (nz N n r).toArray 202::.cells #[.slice (WH ⟨N+1,0,WJ⟩) n n] 198::(Xf n).map λi=>.cells (r i).cells.toArray 229
def gD(wh:WQ)(n:Nat)(r:Nat->RD):WQ:={wh with heap:=wh.heap++(xq wh.heap.size n r).toArray}
def kG(aX:ax)(N C R n:Nat)(r:Nat->RD):ax:=λb a=>aX b a\/(b=N+2/\a=C)\/(b=N+1/\a=R)\/∃i,i<n/\b=N+3+i/\(r i).b=WH a
section
variable{wh:WQ}{n:Nat}{r:Nat->RD}
theorem yj{b:Nat}(h:b<wh.heap.size):(gD wh n r).heap[b]?=wh.heap[b]?:=by simp only[gD];rw[Array.getElem?_append_left h]
theorem Bd(k:Nat):(gD wh n r).heap[wh.heap.size+k]?=(xq wh.heap.size n r)[k]?:=by simp only[gD];rw[Array.getElem?_append_right (by omega)];simp
theorem Ba:(gD wh n r).heap[wh.heap.size+1]?=WH (.cells (nz wh.heap.size n r).toArray 202):=by rw[Bd];rfl
theorem Gc:(gD wh n r).heap[wh.heap.size+2]?=WH (.cells #[.slice (WH ⟨wh.heap.size+1,0,WJ⟩) n n] 198):=by rw[Bd];rfl
theorem Fp{i:Nat}(hi:i<n):(gD wh n r).heap[wh.heap.size+3+i]?=WH (.cells (r i).cells.toArray 229):=by rw[Nat.add_assoc,Bd,show 3+i=i+3 by omega];simp only[xq,W9,List.getElem?_map,List.getElem?_range hi,Xu]
end
section
variable{X:Ph}{Ab:Nat->List WL->Nat->List WL->Prop}{E:Nat->Gh}{ρ0:ax}{w:WQ}{r:Nat->RD}
structure jL(X:Ph)(Ab:Nat->List WL->Nat->List WL->Prop)(E:Nat->Gh)(ρ0:ax)(w:WQ)(r:Nat->RD):Prop where
 mem:Mem X.kP X.J X.n E ρ0 X.gP w
 le:X.iQ.le ρ0
 res:∀i,i<X.n->yy Ab E X.R w i (r i)
 old:∀b b',X.aX b b'->∃o o',X.wh.heap[b]?=WH o/\X.w1.heap[b']?=WH o'/\ft X.ok X.aX o o'
 still:X.Still=uA X.aX X.w1
theorem jL.lt(K:jL X Ab E ρ0 w r){b a:Nat}(h:X.aX b a):b<X.N:=by obtain⟨o,_,e,_⟩:=K.old b a h;exact(WU.1 e).1
theorem jL.up(K:jL X Ab E ρ0 w r){b a:Nat}(h:X.aX b a):ρ0 b a:=K.le _ _ (.inl h)
theorem jL.C0(K:jL X Ab E ρ0 w r):ρ0 (X.N+2) X.C:=K.le _ _ (.inr (.inr ⟨rfl,rfl⟩))
theorem jL.apart(K:jL X Ab E ρ0 w r){i a:Nat}(hi:i<X.n)(h:(r i).b=WH a):(∀c,¬ρ0 c a)/\a≠X.R/\a≠X.Wg/\(∀l,jR l a->¬X.Old l)/\(∀d,d<X.n->(r d).b=WH a->d=i)/\X.ok.old.heap.size<=a:=by obtain⟨_,_,e,k,m⟩:=(K.res i hi).blk a h;obtain⟨p1,t⟩:=K.mem.mN i hi k a m e;obtain⟨s,q,_,o⟩:=K.mem.gU i hi k a m;refine⟨t,q,s,o,λd f p=>?_,Xx (K.mem.kO i hi).2 e⟩;obtain⟨_,_,_,c2,j⟩:=(K.res d f).blk a p;exact Classical.byContradiction λg=>p1 d f g c2 j
theorem jL.rowLen(K:jL X Ab E ρ0 w r):∀i,i<X.n->(mM X.N r i).length=6:=λi hi=>by simp[mM,(K.res i hi).len]
theorem jL.inj(H:X.Ok)(K:jL X Ab E ρ0 w r):ax.bg X.ok (kG X.aX X.N X.C X.R X.n r):=by
 have i0:=K.mem.dh.inj;have f:=K.mem.jw;refine⟨?_,?_,?_⟩;·rintro a b m(h|⟨rfl,rfl⟩|⟨rfl,rfl⟩|⟨i,hi,rfl,h⟩)(c|⟨e,rfl⟩|⟨e,rfl⟩|⟨l,d,e,c⟩);(·exact i0.fn (K.up h) (K.up c));(·have:=K.lt h;omega);(·have:=K.lt h;omega);(·have:=K.lt h;omega);(·have:=K.lt c;omega);(·rfl);(·omega);(·omega);(·have:=K.lt c;omega);(·omega);(·rfl);(·omega);(·have:=K.lt c;omega);(·omega);(·omega);·(obtain rfl:i=l:=by omega);rw[h]at c;cases c;rfl
 ·rintro a a' b(h|⟨rfl,rfl⟩|⟨rfl,rfl⟩|⟨i,hi,rfl,h⟩)(c|⟨rfl,e⟩|⟨rfl,e⟩|⟨l,d,rfl,c⟩);(·exact i0.inj (K.up h) (K.up c));(·subst e;exact i0.inj (K.up h) K.C0);(·exact absurd e (f _ _ (K.up h)).2.1);(·exact absurd (K.up h) ((K.apart d c).1 a));(·exact i0.inj K.C0 (K.up c));(·rfl);(·exact absurd e (f _ _ K.C0).2.1);(·exact absurd K.C0 ((K.apart d c).1 _));(·exact absurd rfl (f _ _ (K.up c)).2.1);(·exact absurd e.symm (f _ _ K.C0).2.1);(·rfl);(·exact absurd rfl (K.apart d c).2.1);(·exact absurd (K.up c) ((K.apart hi h).1 a'));(·subst e;exact absurd K.C0 ((K.apart hi h).1 _));(·exact absurd e (K.apart hi h).2.1);·rw[(K.apart hi h).2.2.2.2.1 l d c]
 ·have k:X.ok.gs=1:=H.b0.gs;have g:ρ0 0 0:=K.mem.mv H.b0.cU 0 (by show 0<X.ok.gs;rw[k];decide);rintro a b(h|⟨rfl,rfl⟩|⟨rfl,rfl⟩|⟨i,hi,rfl,h⟩)j;(·exact i0.cU (K.up h) j);(·have:=i0.cU K.C0 j;exact this);(·rw[k]at j;(have:X.R=0:=by omega);exact absurd this.symm (f _ _ g).2.1);·rw[k]at j;(obtain rfl:b=0:=by omega);exact absurd g ((K.apart hi h).1 0)
theorem jL.rel(H:X.Ok)(K:jL X Ab E ρ0 w r):bh X.ok (kG X.aX X.N X.C X.R X.n r) (gD X.wh X.n r) w:=by
 have y:X.aX.le (kG X.aX X.N X.C X.R X.n r):=λ_ _ h=>.inl h;refine⟨K.inj H,⟨?_,K.mem.dh.gs.2⟩,λx=>absurd x H.b0.cX,?_,K.mem.dh.out⟩;·have G:X.ok.gs=1:=H.b0.gs;rw[G];have:(gD X.wh X.n r).heap[X.wh.heap.size+1]?=_:=Ba;have:=(WU.1 this).1;omega
 ·rintro b g(h|⟨rfl,rfl⟩|⟨rfl,rfl⟩|⟨i,hi,rfl,h⟩);(·have e:b<X.wh.heap.size:=K.lt h;obtain⟨o,Q,e1,e2,e3⟩:=K.old b g h;by_cases J:∃x t f,X.w1.heap[g]?=WH (.cells x t f);(·(have hs:X.Still g:=by rw[K.still];exact⟨b,h,J⟩);have T:w.heap[g]?=X.w1.heap[g]?:=(K.mem.still g hs).1;exact⟨o,Q,by rw[yj e];exact e1,T.trans e2,e3.mono y⟩);·obtain⟨p,U,G,Y,S⟩:=K.mem.dh.obj (K.up h);have d:(dy X.wh X.pa).heap[b]?=WH p:=G;rw[qj e,e1]at d;(have A:ri o=o:=by cases e3 with|cells=>exact absurd ⟨_,_,_,e2⟩ J|map=>rfl|number=>rfl);simp only[Xu,W4]at d;rw[A]at d;subst d;exact⟨o,U,by rw[yj e];exact e1,Y,(ft.shrink (ok1:=X.kP) (ρ1:=ρ0) (ug H.b0) (λ_ _ h=>K.up h) K.mem.dh.inj.fn S e3).mono y⟩);(·refine⟨_,_,Gc,K.mem.var,?_⟩;have B:bw (kG X.aX X.N X.C X.R X.n r) ⟨X.N+1,0,WJ⟩ ⟨X.R,0,WJ⟩:=⟨.inr (.inr (.inl ⟨rfl,rfl⟩)),rfl,rfl⟩;exact .cells (.cons (.slice B _ _) .nil) _ (oE.refl _));(·obtain⟨z,O,hs⟩:=K.mem.row;refine⟨_,_,Ba,O,.cells ?_ _ (oE.refl _)⟩;have L:=Hy (mM X.N r) X.n K.rowLen;have j:z.size=6*X.n:=hs;refine aP.wW ?_ λq v v' V s=>?_;(·rw[show(nz X.wh.heap.size X.n r).toArray.toList=nz X.wh.heap.size X.n r from rfl];show(nz X.N X.n r).length=_;rw[show(nz X.N X.n r).length=6*X.n from L.1];simpa using j.symm);·(have hq:q<6*X.n:=by rw[<-j];have:=(List.getElem?_eq_some_iff.1 s).1;simpa using this);obtain⟨i,k,hi,hk,rfl⟩:∃i k,i<X.n/\k<6/\q=6*i+k:=⟨q/6,q%6,by omega,by omega,by omega⟩;have a:(nz X.N X.n r)[6*i+k]?=WH v:=V;rw[show(nz X.N X.n r)[6*i+k]?=_ from L.2 i k hi hk]at a;have D:=K.res i hi;(have c:((r i).hd++[sv (r i).b (r i).m (r i).k])[k]?=WH v':=by rw[<-D.row k hk];have I:w.heap[X.R]?=WH (.cells z 202):=O;simp only[World.cell?,I];simpa using s);have P:(r i).hd.length=5:=D.len;rcases Xr k 5 with F|F;(·rw[mM,W7 (by omega)]at a;rw[W7 (by omega)]at c;rw[a]at c;cases c;have:=Bu (ok:=X.ok) (ρ:=kG X.aX X.N X.C X.R X.n r) (l:=[v]) (λu M=>by simp at M;subst M;exact D.hd u (List.mem_of_getElem? a));cases this with|cons h _=>exact h);·(obtain rfl:k=5:=by omega);rw[mM,W6 (by omega),P]at a;rw[W6 (by omega),P]at c;simp at a c;subst a c;cases Z:(r i).b with|none=>exact .dZ _ _|some W=>have B:bw (kG X.aX X.N X.C X.R X.n r) ⟨X.N+3+i,0,WJ⟩ ⟨W,0,WJ⟩:=⟨.inr (.inr (.inr ⟨i,hi,rfl,Z⟩)),rfl,rfl⟩;exact .slice B _ _);·exact⟨_,_,Fp hi,((K.res i hi).blk g h).1,.cells (Bu (by simpa using(K.res i hi).atoms)) _ (oE.refl _)⟩
end
end
end Go.Proofs.YtldeiiffabfmeaaGreatDoor
