/- - -/
import Derived.RegionTactic
import Derived.ChangeAlike
import Derived.BigRegion
import Derived.Deep.RegionHeld3
import Derived.Deep.DeepCutAuto
import Derived.Deep.RegionLaw
import Derived.Test.YtldeiiffabfmeaaGreatDoorAam
set_option linter.all false
set_option maxRecDepth 100000
set_option maxHeartbeats 4000000
open Bool renaming and_eq_true->WG,true->WI,false->WR,or_eq_true->Xa,eq_iff_iff->Xm,or_eq_false_iff->Xr,or_false->Xs,not_eq_true'->Xy
open Go renaming Value->WH,World->WK,Calls->Xe,TypeId->XF,Good->XI,Addr->XJ
open Option renaming some->WJ,none->WN,map_eq_map->Xz,map_some->XB
open Go.Proofs.Tryz renaming prog->WL,underlying3->WV,underlying119->Xb,ntmps208->XD,func208->XE
open Go.RowKit.Below renaming refl->WM,heap_setCell->WU
open Nat renaming le_refl->WO,lt_of_lt_of_le->Xc,le_trans->Xj,lt_or_ge->Xk,zero_le->Xo,lt_succ_of_lt->Xv,zero_add->Xw,succ_mul->Xx,lt_succ_self->XA,mul_comm->XG
open Int renaming le_refl->WQ,toNat_natCast->W5
open Array renaming getElem?_eq_some_iff->WT
open List renaming mem_singleton->WX,length_append->W0,mem_append->W3,mem_of_getElem?->W8,getElem?_eq_some_iff->W9,length_cons->Xd,foldl_append->Xh,flatMap_cons->Xi,foldl->Xl,length_nil->Xn,getElem?_modify->Xp,getElem?_of_mem->Xq,any_cons->Xt,length_modify->Xu,any_append->XC,any_nil->XH
open Go.Value renaming ownBlock->WY,slice->W7
open Go.RowKit renaming Below->WZ
open Option.some renaming injEq->W4
open Go.Builtin renaming append_->W6
open Go.World renaming ownsRow_nil->Xf
open Go.Lit renaming int->Xg
namespace Go.Proofs.YtldeiiffabfmeaaGreatDoor
section
open Go.RowKit Go.Maps
structure fy where
 key:Nat
 val:Int
 del:Bool
def gd:List fy->List WH|[]=>[]|c::l=>.int .i64 c.key::.int .i64 c.val::.bool c.del::gd l
theorem Rb(l m:List fy):gd (l++m)=gd l++gd m:=by induction l with|nil=>rfl|cons p l a=>simp[gd,a]
structure aV where
 ab:Bool
 r:Nat->Int
 ch:List fy
 hs:Nat->Bool
 vl:Nat->Int
 nx:Nat
def jH(m:aV)(e a b c d:WH)(f:Nat):Nat->WH|0=>.bool m.ab|1=>.int .i64 (m.r 0)|2=>.int .i64 (m.r 1)|3=>.int .i64 (m.r 2)|4=>.int .i64 (m.r 3)|5=>e|6=>a|7=>b|8=>c|9=>d|10=>.map (WJ f)|11=>.int .i64 m.nx|_=>undef
structure bj(w:WK)(B mb xb:Nat)(a b c d:WH)(n:Nat)(m:aV):Prop where
 ge:B<=mb/\B<=xb
 ex:∃vC,au w mb 249 12 (jH m vC a b c d xb)/\w.ownsRow B 229 3 vC m.ch.length (gd m.ch)/\vC.ownBlock≠WJ mb/\iK w vC
 dT:dk n w xb m.hs m.vl
theorem kl{w:WK}{e g:Nat}{i a b c d:WH}{m:aV}(h:au w e 249 12 (jH m i a b c d g)){A:Nat}(f:A<4):w.cell? ⟨e,1+A,WN⟩=WJ (.int .i64 (m.r A)):=by have:=h.cell (j:=1+A) (by omega);rw[this];match A,f with|0,_|1,_|2,_|3,_=>rfl
theorem VG{w:WK}{f i:Nat}{g a b c d:WH}{m:aV}(h:au w f 249 12 (jH m g a b c d i)){A:Nat}(k:A<4)(x:Int):au (w.setCell ⟨f,1+A,WN⟩ (.int .i64 x)) f 249 12 (jH {m with r:=upd m.r A x} g a b c d i):=by refine(h.setCell (1+A) (.int .i64 x)).congr λj e=>?_;match A,k with|0,_=>(match j,e with|0,_|1,_|2,_|3,_|4,_|5,_|6,_|7,_|8,_|9,_|10,_|11,_=>rfl)|1,_=>(match j,e with|0,_|1,_|2,_|3,_|4,_|5,_|6,_|7,_|8,_|9,_|10,_|11,_=>rfl)|2,_=>(match j,e with|0,_|1,_|2,_|3,_|4,_|5,_|6,_|7,_|8,_|9,_|10,_|11,_=>rfl)|3,_=>match j,e with|0,_|1,_|2,_|3,_|4,_|5,_|6,_|7,_|8,_|9,_|10,_|11,_=>rfl
theorem bj.aZ{w w':WK}{B o i:Nat}{a b c d:WH}{n:Nat}{m:aV}(h:bj w B o i a b c d n m)(e:WZ w.heap.size w w'):bj w' B o i a b c d n m:=by
 obtain⟨s,p,f,r,q⟩:=h.ex;refine⟨h.ge,⟨s,p.below e,?_,r,q.move (λg t=>e.block g (f.lt g t).2)⟩,h.dT.block (e.block i ?_)⟩;·rcases f.2 with v|⟨g,cap,j,rfl,k,l,u⟩;(·exact⟨f.1,.inl v⟩);·exact⟨f.1,.inr ⟨g,cap,j,rfl,k,by rw[e.block g (WT.1 l).1];exact l,u⟩⟩
 ·obtain⟨x,k,_⟩:=h.dT;exact k.lt
theorem bj.lt{w:WK}{B e g:Nat}{a b c d:WH}{n:Nat}{m:aV}(h:bj w B e g a b c d n m):e<w.heap.size:=let⟨_,f,_⟩:=h.ex;f.lt
theorem bj.ne{w:WK}{B e f:Nat}{a b c d:WH}{n:Nat}{m:aV}(h:bj w B e f a b c d n m):e≠f:=by obtain⟨p,k,_⟩:=h.ex;obtain⟨l,⟨es,o,g,_⟩,_⟩:=h.dT;obtain⟨j,i,_⟩:=k;rintro rfl;rw[i]at g;cases g
theorem bj.set{w:WK}{B f k:Nat}{a b c d:WH}{n:Nat}{m m':aV}(h:bj w B f k a b c d n m){j:Nat}{v:WH}(y:m'.ch=m.ch/\m'.hs=m.hs/\m'.vl=m.vl)(u:∀i,au w f 249 12 (jH m i a b c d k)->au (w.setCell ⟨f,j,WN⟩ v) f 249 12 (jH m' i a b c d k)):bj (w.setCell ⟨f,j,WN⟩ v) B f k a b c d n m':=by
 have p:=h.ne;obtain⟨i,D,o,l,x⟩:=h.ex;obtain⟨e1,e2,e3⟩:=y;refine⟨h.ge,⟨i,u i D,?_,l,x.move (λg z=>WU _ _ _ _ (λr=>l (by simp only at r;rw[z,r])))⟩,?_⟩;·rw[e1];rcases o.2 with A|⟨g,cap,q,rfl,C,t,s⟩;(·exact⟨o.1,.inl A⟩);·refine⟨o.1,.inr ⟨g,cap,q,rfl,C,?_,s⟩⟩;rw[WU _ _ _ _ (by simp;intro e;exact l (by simp[WY,e]))];exact t
 ·rw[e2,e3];exact h.dT.block (WU _ _ _ _ (by simp;exactλe=>p e.symm))
structure G9(w:WK)(N:Nat)(k A X C:Int):Prop where
 i0:w.cell? ⟨N,0,WN⟩=WJ (.int .i64 k)
 i1:w.cell? ⟨N,1,WN⟩=WJ (.int .i64 A)
 i2:w.cell? ⟨N,2,WN⟩=WJ (.int .i64 X)
 i3:w.cell? ⟨N,3,WN⟩=WJ (.int .i64 C)
theorem oj(w:WK)(k A X C:Int):G9 (w.alloc (.cells #[.int .i64 k,.int .i64 A,.int .i64 X,.int .i64 C] 161)) w.heap.size k A X C:=⟨by simp,by simp,by simp,by simp⟩
theorem bj.drew{w:WK}{B e f:Nat}{a b c d:WH}{n:Nat}{m:aV}(h:bj w B e f a b c d n m):bj w.drew B e f a b c d n m:=h.aZ (WM _ _).drew
theorem bj.jy{w:WK}{B e f:Nat}{a b c d:WH}{n:Nat}{m:aV}(h:bj w B e f a b c d n m):B<=w.heap.size:=by have:=h.lt;have:=h.ge;omega
theorem bj.sc{w:WK}{B e f:Nat}{a b c d:WH}{n:Nat}{m:aV}(h:bj w B e f a b c d n m){A:Nat}(g:A<4)(x:Int):bj (w.setCell ⟨e,1+A,WN⟩ (.int .i64 x)) B e f a b c d n {m with r:=upd m.r A x}:=h.set ⟨rfl,rfl,rfl⟩ λj i=>VG i g x
theorem Ix(B g j:Nat)(a b c d:WH)(n:Nat)(m:aV)(w:WK)(h:bj w B g j a b c d n m)(k X C:Int)(A:Nat)(l:A<4):Xe WL 197 #[.pointer (WJ ⟨g,0,WN⟩),.agg #[.int .i64 k,.int .i64 A,.int .i64 X,.int .i64 C]] w λe w'=>e=.returned (.tuple #[])/\bj w' B g j a b c d n {m with r:=upd m.r A X}/\WZ B w w':=by
 have i:WZ B w (w.alloc (.cells #[.int .i64 k,.int .i64 A,.int .i64 X,.int .i64 C] 161)):=(WM _ _).alloc h.jy _;have f:=h.aZ ((WM _ _).alloc (WO _) (.cells #[.int .i64 k,.int .i64 A,.int .i64 X,.int .i64 C] 161));obtain⟨i0,i1,i2,i3⟩:=oj w k A X C;have p:(A:Int)<4:=by omega
 have q:(0:Int)<=(A:Int):=by omega
 go_enter Tryz.func197,Tryz.ntmps197;go_wp2_with fail;clear h;generalize(w.alloc (.cells #[.int .i64 k,.int .i64 A,.int .i64 X,.int .i64 C] 161))=w1 at*;obtain⟨t,o,-⟩:=f.ex;have s:=o.frozen;have c1:=kl o l;go_region;go_end0;exact⟨rfl,(f.sc l X).drew,((i.setCell f.ge.1 _).drew)⟩
theorem Jc(B j l:Nat)(a b c d:WH)(n:Nat)(m:aV)(w:WK)(h:bj w B j l a b c d n m)(k:Int)(A X C:Nat)(o:A<4)(p:X<4)(v:C<4):Xe WL 206 #[.pointer (WJ ⟨j,0,WN⟩),.agg #[.int .i64 k,.int .i64 A,.int .i64 X,.int .i64 C]] w λe w'=>e=.returned (.tuple #[])/\bj w' B j l a b c d n {m with r:=upd m.r A (wrap64 (m.r X+m.r C))}/\WZ B w w':=by
 have i:WZ B w (w.alloc (.cells #[.int .i64 k,.int .i64 A,.int .i64 X,.int .i64 C] 161)):=(WM _ _).alloc h.jy _;have f:=h.aZ ((WM _ _).alloc (WO _) (.cells #[.int .i64 k,.int .i64 A,.int .i64 X,.int .i64 C] 161));obtain⟨i0,i1,i2,i3⟩:=oj w k A X C;have y:(A:Int)<4:=by omega
 have t:(0:Int)<=(A:Int):=by omega
 have s:(X:Int)<4:=by omega
 have q:(0:Int)<=(X:Int):=by omega
 have u:(C:Int)<4:=by omega
 have x:(0:Int)<=(C:Int):=by omega
 go_enter Tryz.func206,Tryz.ntmps206;go_wp2_with fail;clear h;generalize(w.alloc (.cells #[.int .i64 k,.int .i64 A,.int .i64 X,.int .i64 C] 161))=w1 at*;obtain⟨D,g,-⟩:=f.ex;have z:=g.frozen;have c1:=kl g o;have c2:=kl g p;have c3:=kl g v;go_region;go_end0;exact⟨rfl,(f.sc o _).drew,((i.setCell f.ge.1 _).drew)⟩
theorem Q1(B j l:Nat)(a b c d:WH)(n:Nat)(m:aV)(w:WK)(h:bj w B j l a b c d n m)(k:Int)(A X C:Nat)(o:A<4)(p:X<4)(v:C<4):Xe WL 207 #[.pointer (WJ ⟨j,0,WN⟩),.agg #[.int .i64 k,.int .i64 A,.int .i64 X,.int .i64 C]] w λe w'=>e=.returned (.tuple #[])/\bj w' B j l a b c d n {m with r:=upd m.r A (wrap64 (m.r X-m.r C))}/\WZ B w w':=by
 have i:WZ B w (w.alloc (.cells #[.int .i64 k,.int .i64 A,.int .i64 X,.int .i64 C] 161)):=(WM _ _).alloc h.jy _;have f:=h.aZ ((WM _ _).alloc (WO _) (.cells #[.int .i64 k,.int .i64 A,.int .i64 X,.int .i64 C] 161));obtain⟨i0,i1,i2,i3⟩:=oj w k A X C;have y:(A:Int)<4:=by omega
 have t:(0:Int)<=(A:Int):=by omega
 have s:(X:Int)<4:=by omega
 have q:(0:Int)<=(X:Int):=by omega
 have u:(C:Int)<4:=by omega
 have x:(0:Int)<=(C:Int):=by omega
 go_enter Tryz.func207,Tryz.ntmps207;go_wp2_with fail;clear h;generalize(w.alloc (.cells #[.int .i64 k,.int .i64 A,.int .i64 X,.int .i64 C] 161))=w1 at*;obtain⟨D,g,-⟩:=f.ex;have z:=g.frozen;have c1:=kl g o;have c2:=kl g p;have c3:=kl g v;go_region;go_end0;exact⟨rfl,(f.sc o _).drew,((i.setCell f.ge.1 _).drew)⟩
def valOf(hs:Nat->Bool)(vl:Nat->Int)(k:Nat):Int:=if hs k then vl k else 0
theorem VQ{n:Nat}{w:WK}{b:Nat}{hs:Nat->Bool}{vl:Nat->Int}(h:dk n w b hs vl){k:Nat}(hk:k<100):(Instr.lookup 119 (.map (WJ b)) (.int .i64 k) WR).run WL w=.ok (.int .i64 (valOf hs vl k)) w:=by obtain⟨m,g,l⟩:=h;have d:keyOf WL 3 (.int .i64 (k:Int))=WJ (.int .i64 (k:Int)):=keyOf_int_mk WV (nY hk);obtain⟨x,c,a,i⟩:=g.lookup_int nN Xb WV (vW _) d;obtain⟨e,j⟩:=l k hk;rw[c];unfold valOf;cases f:hs k with|true=>have:=j f;rw[this]at a;rw[vG a];rfl|false=>rw[f]at e;have:=atKey_of_not_has e (.lit (.int .i64 0));rw[this]at a;rw[<-vG a];rfl
theorem KS(B g l:Nat)(a b c d:WH)(n:Nat)(m:aV)(w:WK)(h:bj w B g l a b c d n m)(k C:Int)(A X:Nat)(p:A<4)(q:X<100):Xe WL 198 #[.pointer (WJ ⟨g,0,WN⟩),.agg #[.int .i64 k,.int .i64 A,.int .i64 X,.int .i64 C]] w λe w'=>e=.returned (.tuple #[])/\bj w' B g l a b c d n {m with r:=upd m.r A (valOf m.hs m.vl X)}/\WZ B w w':=by
 have i:WZ B w (w.alloc (.cells #[.int .i64 k,.int .i64 A,.int .i64 X,.int .i64 C] 161)):=(WM _ _).alloc h.jy _;have f:=h.aZ ((WM _ _).alloc (WO _) (.cells #[.int .i64 k,.int .i64 A,.int .i64 X,.int .i64 C] 161));obtain⟨i0,i1,i2,i3⟩:=oj w k A X C;have u:(A:Int)<4:=by omega
 have t:(0:Int)<=(A:Int):=by omega
 go_enter Tryz.func198,Tryz.ntmps198;go_wp2_with fail;clear h;generalize(w.alloc (.cells #[.int .i64 k,.int .i64 A,.int .i64 X,.int .i64 C] 161))=w1 at*;obtain⟨v,o,-⟩:=f.ex;have y:=o.frozen;have c1:=kl o p;have x:w1.cell? ⟨g,10,WN⟩=WJ (.map (WJ l)):=o.cell (j:=10) (by omega);have s:=VQ f.drew.dT q;go_region;go_end0;exact⟨rfl,(f.sc p _).drew,((i.setCell f.ge.1 _).drew)⟩
theorem Js{w:WK}{e f:Nat}{g a b c d:WH}{m:aV}(h:au w e 249 12 (jH m g a b c d f))(x:Nat):au (w.setCell ⟨e,11,WN⟩ (.int .i64 x)) e 249 12 (jH {m with nx:=x} g a b c d f):=by refine(h.setCell 11 (.int .i64 x)).congr λj i=>?_;match j,i with|0,_|1,_|2,_|3,_|4,_|5,_|6,_|7,_|8,_|9,_|10,_|11,_=>rfl
theorem bj.EX{w:WK}{B e f:Nat}{a b c d:WH}{n:Nat}{m:aV}(h:bj w B e f a b c d n m)(x:Nat):bj (w.setCell ⟨e,11,WN⟩ (.int .i64 x)) B e f a b c d n {m with nx:=x}:=h.set ⟨rfl,rfl,rfl⟩ λi g=>Js g x
theorem KQ(B o p:Nat)(a b c d:WH)(n:Nat)(m:aV)(w:WK)(h:bj w B o p a b c d n m)(k:Int)(A X C:Nat)(q:A<4)(s:X<4):Xe WL 208 #[.pointer (WJ ⟨o,0,WN⟩),.agg #[.int .i64 k,.int .i64 A,.int .i64 X,.int .i64 C]] w λe w'=>e=.returned (.tuple #[])/\bj w' B o p a b c d n {m with nx:=if m.r A<m.r X then C else m.nx}/\WZ B w w':=by
 have i:WZ B w (w.alloc (.cells #[.int .i64 k,.int .i64 A,.int .i64 X,.int .i64 C] 161)):=(WM _ _).alloc h.jy _;have f:=h.aZ ((WM _ _).alloc (WO _) (.cells #[.int .i64 k,.int .i64 A,.int .i64 X,.int .i64 C] 161));obtain⟨i0,i1,i2,i3⟩:=oj w k A X C;have y:(A:Int)<4:=by omega
 have u:(0:Int)<=(A:Int):=by omega
 have v:(X:Int)<4:=by omega
 have x:(0:Int)<=(X:Int):=by omega
 by_cases l:m.r A<m.r X;·rw[if_pos l];go_enter XE,XD;go_wp2_with fail;clear h;generalize(w.alloc (.cells #[.int .i64 k,.int .i64 A,.int .i64 X,.int .i64 C] 161))=w1 at*;obtain⟨t,g,-⟩:=f.ex;have z:=g.frozen;have c1:=kl g q;have c2:=kl g s;have D:w1.cell? ⟨o,11,WN⟩=WJ (.int .i64 m.nx):=g.cell (j:=11) (by omega);go_region;go_wp2;go_end0;exact⟨rfl,(f.drew.EX C),((i.drew.setCell f.ge.1 _))⟩
 ·rw[if_neg l];go_enter XE,XD;go_wp2_with fail;clear h;generalize(w.alloc (.cells #[.int .i64 k,.int .i64 A,.int .i64 X,.int .i64 C] 161))=w1 at*;obtain⟨t,g,-⟩:=f.ex;have c1:=kl g q;have c2:=kl g s;go_region;go_wp2;go_end0;exact⟨rfl,f.drew,i.drew⟩
theorem KW{w:WK}{e f:Nat}{i a b c d:WH}{m:aV}(h:au w e 249 12 (jH m i a b c d f))(x:Nat):au (((w.setCell ⟨e,0,WN⟩ (.bool WI)).setCell ⟨e,5,WN⟩ (.slice WN 0 0)).setCell ⟨e,11,WN⟩ (.int .i64 x)) e 249 12 (jH {m with ab:=WI,ch:=[],nx:=x} (.slice WN 0 0) a b c d f):=by refine(((h.setCell 0 (.bool WI)).setCell 5 (.slice WN 0 0)).setCell 11 (.int .i64 x)).congr λj g=>?_;match j,g with|0,_|1,_|2,_|3,_|4,_|5,_|6,_|7,_|8,_|9,_|10,_|11,_=>rfl
theorem bj.Qp{w:WK}{B g i:Nat}{a b c d:WH}{n:Nat}{m:aV}(h:bj w B g i a b c d n m)(x:Nat):bj (((w.setCell ⟨g,0,WN⟩ (.bool WI)).setCell ⟨g,5,WN⟩ (.slice WN 0 0)).setCell ⟨g,11,WN⟩ (.int .i64 x)) B g i a b c d n {m with ab:=WI,ch:=[],nx:=x}:=by have f:=h.ne;obtain⟨o,j,k,l,_⟩:=h.ex;refine⟨h.ge,⟨_,KW j x,Xf _ _ _ _,by simp[WY],iK.nil _ _ _⟩,h.dT.block ?_⟩;rw[WU _ _ _ _ (by simp;exactλe=>f e.symm),WU _ _ _ _ (by simp;exactλe=>f e.symm),WU _ _ _ _ (by simp;exactλe=>f e.symm)]
theorem OB(B d k:Nat)(a b c:WH)(g:Option XJ)(nc i:Nat)(n:Nat)(m:aV)(w:WK)(h:bj w B d k a b c (.slice g nc i) n m):Xe WL 195 #[.pointer (WJ ⟨d,0,WN⟩)] w λe w'=>e=.returned (.tuple #[])/\bj w' B d k a b c (.slice g nc i) n {m with ab:=WI,ch:=[],nx:=nc}/\WZ B w w':=by obtain⟨l,f,-⟩:=h.ex;have p:=f.frozen;have c0:w.cell? ⟨d,0,WN⟩=WJ (.bool m.ab):=f.cell (j:=0) (by omega);have c5:w.cell? ⟨d,5,WN⟩=WJ l:=f.cell (j:=5) (by omega);have c9:w.cell? ⟨d,9,WN⟩=WJ (.slice g nc i):=f.cell (j:=9) (by omega);have o:w.cell? ⟨d,11,WN⟩=WJ (.int .i64 m.nx):=f.cell (j:=11) (by omega);go_enter Tryz.func195,Tryz.ntmps195;go_wp2;go_end0;exact⟨rfl,h.Qp nc,(((WM _ _).setCell h.ge.1 _).setCell h.ge.1 _).setCell h.ge.1 _⟩
theorem Qu(B d g:Nat)(a b c:WH)(l:Option XJ)(nc i:Nat)(n:Nat)(m:aV)(w:WK)(h:bj w B d g a b c (.slice l nc i) n m)(k A X C:Int):Xe WL 209 #[.pointer (WJ ⟨d,0,WN⟩),.agg #[.int .i64 k,.int .i64 A,.int .i64 X,.int .i64 C]] w λe w'=>e=.returned (.tuple #[])/\bj w' B d g a b c (.slice l nc i) n {m with ab:=WI,ch:=[],nx:=nc}/\WZ B w w':=by have f:WZ B w (w.alloc (.cells #[.int .i64 k,.int .i64 A,.int .i64 X,.int .i64 C] 161)):=(WM _ _).alloc h.jy _;have j:=h.aZ ((WM _ _).alloc (WO _) (.cells #[.int .i64 k,.int .i64 A,.int .i64 X,.int .i64 C] 161));go_enter Tryz.func209,Tryz.ntmps209;go_wp2_with fail;refine(OB B d g a b c l nc i n m _ j).mono ?_;rintro e w1⟨rfl,o,p⟩;go_wp2_with fail;go_end0;exact⟨rfl,o,f.trans p⟩
theorem bj.mapped{w w':WK}{B s l:Nat}{a b c d:WH}{n v:Nat}{m:aV}{hs:Nat->Bool}{vl:Nat->Int}(h:bj w B s l a b c d n m)(H:dk v w' l hs vl)(t:∀k,k<w.heap.size->k≠l->w'.heap[k]?=w.heap[k]?):bj w' B s l a b c d v {m with hs:=hs,vl:=vl}:=by
 have r:=h.ne;obtain⟨z,D,o,E,F⟩:=h.ex;obtain⟨p,r1,r2,r3⟩:=D;have q:z.ownBlock≠WJ l:=by intro e;rcases o.2 with⟨rfl,_⟩|⟨g,cap,y,rfl,x,f,u⟩;(·simp[WY]at e);·simp only[WY,W4]at e;subst e;obtain⟨C,⟨es,A,j,_⟩,_⟩:=h.dT;rw[f]at j;cases j
 refine⟨h.ge,⟨z,⟨p,by rw[t s (WT.1 r1).1 r];exact r1,r2,r3⟩,?_,E,F.move (λg i=>t g (o.lt g i).2 (λe=>q (by rw[i,e])))⟩,H⟩;rcases o.2 with G|⟨g,cap,y,rfl,x,f,u⟩;·exact⟨o.1,.inl G⟩
 ·refine⟨o.1,.inr ⟨g,cap,y,rfl,x,?_,u⟩⟩;rw[t g (WT.1 f).1];(·exact f);·rintro rfl;obtain⟨C,⟨es,A,j,_⟩,_⟩:=h.dT;rw[f]at j;cases j
theorem VL{w:WK}{f g:Nat}{k e a b c d:WH}{m:aV}(h:au w f 249 12 (jH m k a b c d g))(l:List fy):au (w.setCell ⟨f,5,WN⟩ e) f 249 12 (jH {m with ch:=l} e a b c d g):=by refine(h.setCell 5 e).congr λj i=>?_;match j,i with|0,_|1,_|2,_|3,_|4,_|5,_|6,_|7,_|8,_|9,_|10,_|11,_=>rfl
theorem bj.changed{w w':WK}{B i j:Nat}{a b c d:WH}{n:Nat}{m:aV}{r f:WH}(h:bj w B i j a b c d n m)(I:au w i 249 12 (jH m r a b c d j))(F:r.ownBlock≠WJ i)(l:List fy)(t:w'.ownsRow B 229 3 f l.length (gd l))(z:iK w' f)(D:∀k,k<w.heap.size->WJ k≠r.ownBlock->w'.heap[k]?=w.heap[k]?)(G:r.ownBlock≠WJ j):bj (w'.setCell ⟨i,5,WN⟩ f) B i j a b c d n {m with ch:=l}:=by
 have y:=h.ne;have q:au w' i 249 12 (jH m r a b c d j):=by obtain⟨p,r1,r2,r3⟩:=I;exact⟨p,by rw[D i (WT.1 r1).1 (λe=>F e.symm)];exact r1,r2,r3⟩
 have o:f.ownBlock≠WJ i:=by intro e;rcases t.2 with⟨rfl,_⟩|⟨g,cap,A,rfl,s,x,C⟩;(·simp[WY]at e);·simp only[WY,W4]at e;subst e;obtain⟨p,r1,_⟩:=q;rw[x]at r1;cases r1
 have v:j<w.heap.size:=by obtain⟨J,s,_⟩:=h.dT;exact s.lt
 refine⟨h.ge,⟨f,VL q l,?_,o,z.move (λg u=>WU _ _ _ _ (λE=>o (by simp only at E;rw[u,E])))⟩,?_⟩;·rcases t.2 with H|⟨g,cap,A,rfl,s,x,C⟩;(·exact⟨t.1,.inl H⟩);·refine⟨t.1,.inr ⟨g,cap,A,rfl,s,?_,C⟩⟩;rw[WU _ _ _ _ (by simp;intro e;exact o (by simp[WY,e]))];exact x
 ·refine h.dT.block ?_;rw[WU _ _ _ _ (by simp;exactλe=>y e.symm)];exact D j v (λe=>G e.symm)
theorem bj.Uv{w:WK}{B k j:Nat}{a b c d:WH}{n:Nat}{m:aV}{f:WH}(h:bj w B k j a b c d n m)(l:w.ownsRow B 229 3 f m.ch.length (gd m.ch)):f.ownBlock≠WJ j:=by
 intro e;rcases l.2 with⟨rfl,_⟩|⟨g,cap,r,rfl,p,o,t⟩;·simp[WY]at e
 ·simp only[WY,W4]at e;subst e;obtain⟨s,⟨es,q,i,_⟩,_⟩:=h.dT;rw[o]at i;cases i
theorem Tryz.Bb:(Tryz.prog.info? 229).map (λi=>(i.zero,i.size,i.bytes))=WJ (WJ (.agg #[.int .i64 0,.int .i64 0,.bool WR]),3,24):=by kernel_rfl
theorem Bz{n:Nat}{w w1:WK}{b:Nat}{hs:Nat->Bool}{vl:Nat->Int}{d:DataW Unit}(a:w.ownsMap WL 3 (plainElem WL 3) b n d)(i:xH d hs vl){k:Nat}{x:Int}(g:w1.ownsMap WL 3 (plainElem WL 3) b (n+1) (d.put (.int .i64 k) (.lit (.int .i64 x)))):dk (n+1) w1 b (upd hs k WI) (upd vl k x):=by
 refine⟨_,g,λj f=>?_⟩;by_cases e:j=k;·subst e;rw[upd_same,upd_same];exact⟨has_put_same a.isMap (by simp[WideAt.IsKeyLit]) _,λ_=>atKey_put_same a.isMap (by simp[WideAt.IsKeyLit]) _ _⟩
 ·(have c:(Xg .i64 (j:Int))≠.int .i64 (k:Int):=by intro h;injection h with _ h;exact e (by omega));rw[bC _ _ e,bC _ _ e,has_put_other c,atKey_put_other c];exact i j f
theorem G1{n:Nat}{w w1:WK}{b:Nat}{hs:Nat->Bool}{vl:Nat->Int}{c:DataW Unit}(d:w.ownsMap WL 3 (plainElem WL 3) b n c)(i:xH c hs vl){k:Nat}(g:w1.ownsMap WL 3 (plainElem WL 3) b n (c.del (.int .i64 k))):dk n w1 b (upd hs k WR) vl:=by
 refine⟨_,g,λj f=>?_⟩;by_cases e:j=k;·subst e;rw[upd_same];exact⟨has_del_same,λh=>by cases h⟩
 ·(have a:(Xg .i64 (j:Int))≠.int .i64 (k:Int):=by intro h;injection h with _ h;exact e (by omega));rw[bC _ _ e,has_del_other a,atKey_del_other a];exact i j f
theorem jD{w:WK}{base:Nat}{e:XF}{b n:Nat}{v:WH}{xs:List WH}(h:w.ownsRow base e b v n xs):∃a c,v=.slice a n c:=by
 rcases h.2 with⟨rfl,rfl⟩|⟨g,cap,d,rfl,_⟩;·exact⟨WN,0,rfl⟩
 ·exact⟨_,cap,rfl⟩
theorem bj.behind{w w1:WK}{B p l:Nat}{a b c d:WH}{n E:Nat}{m:aV}{hs:Nat->Bool}{vl:Nat->Int}(h:bj w B p l a b c d n m)(H:dk E w1 l hs vl)(v:w.grownBy w1 (WJ l)):∃f i,au w1 p 249 12 (jH {m with hs:=hs,vl:=vl} (.slice f m.ch.length i) a b c d l)/\w1.ownsRow B 229 3 (.slice f m.ch.length i) m.ch.length (gd m.ch)/\(W7 f m.ch.length i).ownBlock≠WJ p/\(W7 f m.ch.length i).ownBlock≠WJ l/\bj w1 B p l a b c d E {m with hs:=hs,vl:=vl}/\WZ B w w1/\w1.cell? ⟨p,5,WN⟩=WJ (.slice f m.ch.length i)/\B<=w1.heap.size/\iK w1 (.slice f m.ch.length i):=by
 have t:=h.mapped H (λk hk A=>v.block k hk (by simpa using A));obtain⟨z,G,x,C,D⟩:=h.ex;have o:=h.Uv x;have s:iK w1 z:=D.move (λg u=>v.block g (x.lt g u).2 (λe=>o (by rw[u,e])));have r:w1.ownsRow B 229 3 z m.ch.length (gd m.ch):=x.kept v (.inr o);have q:au w1 p 249 12 (jH {m with hs:=hs,vl:=vl} z a b c d l):=by obtain⟨y,r1,r2,r3⟩:=G;exact⟨y,by rw[v.block p (WT.1 r1).1 (by simpa using h.ne)];exact r1,r2,λj F=>by rw[r3 j F];match j,F with|0,_|1,_|2,_|3,_|4,_|5,_|6,_|7,_|8,_|9,_|10,_|11,_=>rfl⟩
 obtain⟨f,i,rfl⟩:=jD r;exact⟨f,i,q,r,C,o,t,(WM _ _).grown v h.jy (λb I=>by cases I;exact h.ge.2),q.cell (j:=5) (by omega),t.jy,s⟩
theorem bj.GA{w1 w2:WK}{B f s:Nat}{a b c d:WH}{n:Nat}{m:aV}{p:Option XJ}{k:Nat}{w:WH}{o:Obj}{l:List fy}(h:bj w1 B f s a b c d n m)(v:au w1 f 249 12 (jH m (.slice p m.ch.length k) a b c d s))(A:w1.ownsRow B 229 3 (.slice p m.ch.length k) m.ch.length (gd m.ch))(i:(W7 p m.ch.length k).ownBlock≠WJ f)(y:(W7 p m.ch.length k).ownBlock≠WJ s)(r:w2.ownsRow B 229 3 w l.length (gd l))(x:iK w2 w)(t:(w1.alloc o).grownBy w2 (W7 p m.ch.length k).ownBlock):bj (w2.setCell ⟨f,5,WN⟩ w) B f s a b c d n {m with ch:=l}/\WZ B w1 w2/\w2.cell? ⟨f,5,WN⟩=WJ (.slice p m.ch.length k)/\w2.frozen? ⟨f,5,WN⟩=WR:=by
 have q:=h.jy;have u:=h.aZ ((WM _ _).alloc (WO _) o);have g:=v.alloc o;refine⟨u.changed g i l r x t.block y,((WM _ _).alloc q _).grown t (by simp;omega) (λb z=>(A.lt b z).1),?_,?_⟩;·have:=g.cell (j:=5) (by omega);refine Eq.trans ?_ this;exact World.cell?_of_block (t.block f (by simp;exact Xv v.lt) (λe=>i e.symm))
 ·rw[World.frozen?_of_block (t.block f (by simp;exact Xv v.lt) (λe=>i e.symm))];exact g.frozen 5
theorem Vd(w:WK)(a b c:WH):∀j u,[a,b,c][j]?=WJ u->(w.alloc (.cells #[a,b,c] 229)).cell? ((⟨w.heap.size,0,WN⟩:XJ).add j)=WJ u:=by intro j u e;have d:j<3:=(W9.1 e).1;have:=(cH w [a,b,c] 229).cell (j:=j) d;rw[fH,Xw,this];simp[lc,e]
theorem GB(w1:WK)(B:Nat)(l:List fy)(n:Option XJ)(m:Nat)(k:Nat)(x:Int)(q:Bool)(j:w1.ownsRow B 229 3 (.slice n l.length m) l.length (gd l))(i:iK w1 (.slice n l.length m))(y:l.length<=1000)(s:B<=w1.heap.size):∃d c w2,(∀ty,(W6 #[(200:XF),200] ty #[W7 n l.length m,W7 (WJ (Addr.mk w1.heap.size 0 WN)) 1 1]).run WL (w1.alloc (.cells #[.int .i64 k,.int .i64 x,.bool q] 229))=.ok (.slice d (l.length+1) c) w2)/\w2.ownsRow B 229 3 (.slice d (l.length+1) c) (l++[fy.mk k x q]).length (gd (l++[fy.mk k x q]))/\(w1.alloc (.cells #[.int .i64 k,.int .i64 x,.bool q] 229)).grownBy w2 (W7 n l.length m).ownBlock/\iK w2 (.slice d (l.length+1) c):=by
 obtain⟨i0,hi,p,r,o⟩:=info_parts Tryz.Bb;obtain⟨z,w2,h,a,e,f⟩:=IQ (P:=WL) (w1.alloc (.cells #[.int .i64 k,.int .i64 x,.bool q] 229)) B 200 229 i0 (.agg #[.int .i64 0,.int .i64 0,.bool WR]) 3 24 Tryz.underlying200 hi p r o rfl (by omega) (by intro u b;simp[Value.cells]at b;rcases b with rfl|rfl<;>trivial) _ _ _ (j.alloc _) (i.move (λg w=>Below.heap_alloc _ _ _ (j.lt g w).2)) ⟨w1.heap.size,0,WN⟩ 1 1 [.int .i64 k,.int .i64 x,.bool q] rfl (Vd w1 _ _ _) (by intro u b;simp at b;rcases b with rfl|rfl|rfl<;>rfl) (by intro u b;simp at b;rcases b with rfl|rfl|rfl<;>trivial) (by omega) (by unfold maxLen;omega) (by omega) (by simp;omega);rcases a.2 with⟨rfl,t⟩|⟨g,cap,v,rfl,_⟩;·simp at t
 ·exact⟨_,cap,w2,h,by rw[Rb,W0];exact a,e,f⟩
theorem J7(B C D:Nat)(a b c d:WH)(n:Nat)(m:aV)(w:WK)(h:bj w B C D a b c d n m)(k:Nat)(x:Int)(hk:k<100)(P:(Xg .i64 x).wf=WI)(Y:n<=100000)(J:m.ch.length<=1000):Xe WL 200 #[.pointer (WJ ⟨C,0,WN⟩),.int .i64 k,.int .i64 x] w λe w'=>e=.returned (.tuple #[])/\bj w' B C D a b c d (n+1) {m with hs:=upd m.hs k WI,vl:=upd m.vl k x,ch:=m.ch++[⟨k,x,WR⟩]}/\WZ B w w':=by
 obtain⟨i0,hi,T,R,U⟩:=info_parts Tryz.Bb;have y:keyOf WL 3 (.int .i64 (k:Int))=WJ (.int .i64 (k:Int)):=keyOf_int_mk WV (nY hk);obtain⟨W,s,K⟩:=h.dT;have Q:w.cell? ⟨C,10,WN⟩=WJ (.map (WJ D)):=by obtain⟨X,M,-⟩:=h.ex;exact M.cell (j:=10) (by omega)
 go_enter Tryz.func200,Tryz.ntmps200;go_wp2_with(first|(at_mapUpdate;refine wpList_mapUpdate_own _ rfl _ _ _ 119 rfl 3 3 nN Xb _ D n _ rfl s (by unfold maxLen;omega) _ _ _ rfl rfl y _ [] (plainElem_int WV P) ?_;intro w1 i f;obtain⟨S,L,v,u,I,E,t,H,c5,A,q⟩:=h.behind (Bz s K i) f;clear i f Q)|(at_builtin;obtain⟨N,O,w2,p,g,o,r⟩:=GB w1 B m.ch S L k x WR u q J A;obtain⟨G,F,V,ff⟩:=t.GA (l:=m.ch++[⟨k,x,WR⟩]) v u I E g r o;have z:=t.ge.1;refine BE rfl _ _ 200 200 rfl _ _ rfl rfl _ _ p ?_;clear o g t u v c5 h r q p));go_end0;exact⟨rfl,G,(H.trans F).setCell z _⟩
theorem BP{w w':WK}{b:Nat}(h:w.mapTurned w' b):w.grownBy w' (WJ b):=by obtain⟨es,f,es',c,d,rfl⟩:=h;refine⟨rfl,rfl,rfl,by simp[Go.ChangeMaps.setBlock],λk hk a=>?_⟩;simp only[Go.ChangeMaps.setBlock];rw[Array.getElem?_setIfInBounds,if_neg (λe=>a (by rw[e]))]
theorem Mz(B C A:Nat)(a b c d:WH)(n:Nat)(m:aV)(w:WK)(h:bj w B C A a b c d n m)(k:Nat)(hk:k<100)(I:m.ch.length<=1000):Xe WL 202 #[.pointer (WJ ⟨C,0,WN⟩),.int .i64 k] w λe w'=>e=.returned (.tuple #[])/\bj w' B C A a b c d n {m with hs:=upd m.hs k WR,ch:=m.ch++[⟨k,0,WI⟩]}/\WZ B w w':=by
 obtain⟨i0,hi,M,S,R⟩:=info_parts Tryz.Bb;have z:keyOf WL 3 (.int .i64 (k:Int))=WJ (.int .i64 (k:Int)):=keyOf_int_mk WV (nY hk);obtain⟨L,s,P⟩:=h.dT;have O:w.cell? ⟨C,10,WN⟩=WJ (.map (WJ A)):=by obtain⟨V,J,-⟩:=h.ex;exact J.cell (j:=10) (by omega)
 go_enter Tryz.func202,Tryz.ntmps202;go_wp2_with(first|(at_delete;refine wpList_delete_own _ rfl _ _ 119 3 rfl 3 nN Xb _ A n L rfl s _ _ rfl z ?_;intro w1 o f;obtain⟨Q,T,v,t,E,D,u,G,c5,y,r⟩:=h.behind (G1 s P o) (BP f);clear o f O)|(at_builtin;obtain⟨K,N,w2,p,g,i,q⟩:=GB w1 B m.ch Q T k 0 WI t r I y;obtain⟨H,F,U,ff⟩:=u.GA (l:=m.ch++[⟨k,0,WI⟩]) v t E D g q i;have x:=u.ge.1;refine BE rfl _ _ 200 200 rfl _ _ rfl rfl _ _ p ?_;clear i g u t v c5 h q r p));go_end0;exact⟨rfl,H,(G.trans F).setCell x _⟩
theorem PG(B f i:Nat)(a b c d:WH)(n:Nat)(m:aV)(w:WK)(h:bj w B f i a b c d n m)(k X C:Int)(A:Nat)(l:A<100)(p:m.ch.length<=1000):Xe WL 201 #[.pointer (WJ ⟨f,0,WN⟩),.agg #[.int .i64 k,.int .i64 A,.int .i64 X,.int .i64 C]] w λe w'=>e=.returned (.tuple #[])/\bj w' B f i a b c d n {m with hs:=upd m.hs A WR,ch:=m.ch++[⟨A,0,WI⟩]}/\WZ B w w':=by have g:WZ B w (w.alloc (.cells #[.int .i64 k,.int .i64 A,.int .i64 X,.int .i64 C] 161)):=(WM _ _).alloc h.jy _;have j:=h.aZ ((WM _ _).alloc (WO _) (.cells #[.int .i64 k,.int .i64 A,.int .i64 X,.int .i64 C] 161));go_enter Tryz.func201,Tryz.ntmps201;go_wp2_with fail;refine(Mz B f i a b c d n m _ j A l p).mono ?_;rintro e w1⟨rfl,o,q⟩;go_wp2_with fail;go_end0;exact⟨rfl,o,g.trans q⟩
theorem VV(B g j:Nat)(a b c d:WH)(n:Nat)(m:aV)(w:WK)(h:bj w B g j a b c d n m)(k C:Int)(A X:Nat)(u:A<100)(q:X<4)(t:(Xg .i64 (m.r X)).wf=WI)(p:n<=100000)(s:m.ch.length<=1000):Xe WL 199 #[.pointer (WJ ⟨g,0,WN⟩),.agg #[.int .i64 k,.int .i64 A,.int .i64 X,.int .i64 C]] w λe w'=>e=.returned (.tuple #[])/\bj w' B g j a b c d (n+1) {m with hs:=upd m.hs A WI,vl:=upd m.vl A (m.r X),ch:=m.ch++[⟨A,m.r X,WR⟩]}/\WZ B w w':=by
 have i:WZ B w (w.alloc (.cells #[.int .i64 k,.int .i64 A,.int .i64 X,.int .i64 C] 161)):=(WM _ _).alloc h.jy _;have f:=h.aZ ((WM _ _).alloc (WO _) (.cells #[.int .i64 k,.int .i64 A,.int .i64 X,.int .i64 C] 161));obtain⟨i0,i1,i2,i3⟩:=oj w k A X C;have o:(X:Int)<4:=by omega
 have x:(0:Int)<=(X:Int):=by omega
 go_enter Tryz.func199,Tryz.ntmps199;go_wp2_with fail;clear h;generalize(w.alloc (.cells #[.int .i64 k,.int .i64 A,.int .i64 X,.int .i64 C] 161))=w1 at*;obtain⟨z,l,-⟩:=f.ex;have D:=l.frozen;have c2:=kl l q;go_region_with(go_at_call 200;refine(J7 B g j a b c d n m _ f.drew A (m.r X) u t p s).mono ?_;rintro e w2⟨rfl,v,y⟩);all_goals(go_end0;exact⟨rfl,v,(i.drew).trans y⟩)
def dG(hs:Nat->Bool)(vl:Nat->Int)(lo:Nat):Nat->Int|0=>0|k+1=>if hs (lo+k)then wrap64 (dG hs vl lo k+vl (lo+k))else dG hs vl lo k
def fg(hs:Nat->Bool)(lo:Nat)(k:Nat):Nat:=bK (λj=>hs (lo+j)) k
theorem xd{hs:Nat->Bool}{vl:Nat->Int}{lo k:Nat}(h:hs (lo+k)=WI):dG hs vl lo (k+1)=wrap64 (dG hs vl lo k+vl (lo+k)):=by simp[dG,h]
theorem wj{hs:Nat->Bool}{vl:Nat->Int}{lo k:Nat}(h:hs (lo+k)=WR):dG hs vl lo (k+1)=dG hs vl lo k:=by simp[dG,h]
theorem Fy(hs:Nat->Bool)(vl:Nat->Int)(lo k:Nat):(Xg .i64 (dG hs vl lo k)).wf=WI:=by induction k with|zero=>rfl|succ k a=>unfold dG;split;(·exact wrap64_wf _);·exact a
theorem JV{n:Nat}{w:WK}{b:Nat}{hs:Nat->Bool}{vl:Nat->Int}(h:dk n w b hs vl){k:Nat}(hk:k<100):(Instr.lookup 119 (.map (WJ b)) (.int .i64 k) WI).run WL w=.ok (.tuple #[.int .i64 (valOf hs vl k),.bool (hs k)]) w:=by obtain⟨o,i,m⟩:=h;have c:keyOf WL 3 (.int .i64 (k:Int))=WJ (.int .i64 (k:Int)):=keyOf_int_mk WV (nY hk);obtain⟨v,ps,a,l⟩:=i.look_ok nN Xb (vW _) (plainElem_int WV (show(Xg .i64 0).wf=WI by decide)) c;obtain⟨x,rfl,d,j⟩:=plainElem_int_inv WV l;simp only[Prod.mk.injEq]at d;obtain⟨e,g⟩:=m k hk;rw[a,e];unfold valOf;cases f:hs k with|true=>have:=g f;rw[this]at d;rw[<-vG d.1];rfl|false=>rw[f]at e;have:=atKey_of_not_has e (.lit (.int .i64 0));rw[this]at d;rw[<-vG d.1];rfl
theorem Gd(B E J:Nat)(a b c d:WH)(n:Nat)(m:aV)(w:WK)(h:bj w B E J a b c d n m)(ng:Nat)(g:Nat->Int)(N:aQ w c 2 ng g)(j lo hi:Nat)(Z:j<ng)(L:g (2*j)=lo)(H:g (2*j+1)=hi)(O:lo<=hi)(V:hi<=99):Xe WL 204 #[.pointer (WJ ⟨E,0,WN⟩),.int .i64 j] w λe w'=>e=.returned (.tuple #[.int .i64 (dG m.hs m.vl lo (hi+1-lo)),.int .i64 (fg m.hs lo (hi+1-lo):Nat)])/\bj w' B E J a b c d n m/\WZ w.heap.size w w':=by
 obtain⟨Y,z,rfl,Q,D⟩:=id N;obtain⟨G,go,rfl,S,f⟩:=D (by omega);have e0:w.cell? ⟨G,go+j*2,WN⟩=WJ (.int .i64 lo):=by rw[f _ (by omega),<-L,XG]
 have e1:w.cell? ⟨G,go+j*2+1,WN⟩=WJ (.int .i64 hi):=by rw[Nat.add_assoc,f _ (by omega),<-H,XG]
 obtain⟨R,F,-⟩:=h.ex;have P:w.cell? ⟨E,8,WN⟩=WJ (.slice (WJ ⟨G,go,WN⟩) ng z):=F.cell (j:=8) (by omega);have T:(j:Int)<(ng:Int):=by omega
 have U:(0:Int)<=(j:Int):=by omega
 have C:WZ w.heap.size w (w.alloc (.cells #[.int .i64 lo,.int .i64 hi] 159)):=(WM _ _).alloc (WO _) _;have t:=h.aZ C;clear f D N F;go_enter Tryz.func204,Tryz.ntmps204;go_wp2_with fail;have r1:(w.alloc (.cells #[.int .i64 lo,.int .i64 hi] 159)).cell? ⟨w.heap.size,1,WN⟩=WJ (.int .i64 hi):=by simp
 have cm:(w.alloc (.cells #[.int .i64 lo,.int .i64 hi] 159)).cell? ⟨E,10,WN⟩=WJ (.map (WJ J)):=by obtain⟨R,F,-⟩:=t.ex;exact F.cell (j:=10) (by omega)
 have x:=t.dT;clear e0 e1 P;generalize(w.alloc (.cells #[.int .i64 lo,.int .i64 hi] 159))=w1 at*;go_loopw[4,5,7](λs q i wr=>∃k:Nat,lo<=k/\k<=hi+1/\i=.int .i64 k/\s=.int .i64 (dG m.hs m.vl lo (k-lo))/\q=.int .i64 (fg m.hs lo (k-lo):Nat)/\w1=wr)(λ_ _ i _=>hi+1-(intOf i).toNat);case atStart=>exact⟨lo,WO _,by omega,rfl,by simp[dG],by simp[fg,bK],rfl⟩
 case round=>obtain⟨k,u,hk,rfl,rfl,rfl,rfl⟩:=hrel;(have o:Hid (k+1-lo=(k-lo)+1):=by show _=_;omega);(have l:Hid (lo+(k-lo)=k):=by show _=_;omega);by_cases W:k<=hi;(·have u:=JV x (k:=k) (by omega);(have y:(k:Int)<=(hi:Int):=by omega);have M:=mU (λj=>m.hs (lo+j)) (k-lo);cases r:m.hs k with|false=>have I:Hid (_=_):=wj (hs:=m.hs) (vl:=m.vl) (lo:=lo) (k:=k-lo) (by rw[l.out];exact r);have K:Hid (_=_):=wE (p:=λj=>m.hs (lo+j)) (k:=k-lo) (by show m.hs (lo+(k-lo))=WR;rw[l.out];exact r);rw[r]at u;clear r;go_wp2;go_roundw;(case rel=>exact⟨k+1,by omega,by omega,by go_num,by rw[o.out,I.out],by rw[o.out];unfold fg;rw[K.out],trivial⟩);case measure=>simp[intOf];omega|true=>have I:Hid (_=_):=xd (hs:=m.hs) (vl:=m.vl) (lo:=lo) (k:=k-lo) (by rw[l.out];exact r);have K:Hid (_=_):=wI (p:=λj=>m.hs (lo+j)) (k:=k-lo) (by show m.hs (lo+(k-lo))=WI;rw[l.out];exact r);rw[r,show valOf m.hs m.vl k=m.vl k by simp[valOf,r]]at u;clear r;go_wp2;go_roundw;(case rel=>exact⟨k+1,by omega,by omega,by go_num,by rw[o.out,I.out,l.out],by rw[o.out];unfold fg at*;rw[K.out,Go.IntWalk.wrap64_in _ (by omega)];simp,trivial⟩);case measure=>simp[intOf];omega);·(have A:k=hi+1:=by omega);(have y:¬(k:Int)<=(hi:Int):=by omega);have X:Hid (k=hi+1):=A;clear A;go_wp2;exact bodyPost_ret (v:=.tuple #[.int .i64 (dG m.hs m.vl lo (k-lo)),.int .i64 (fg m.hs lo (k-lo):Nat)]) (by simp[results,Tryz.results204,go_sem]) rfl ⟨by rw[X.out],t,C⟩
theorem VO(B j u:Nat)(a b c d:WH)(n:Nat)(m:aV)(w:WK)(h:bj w B j u a b c d n m)(k C:Int)(A X lo hi ng:Nat)(g:Nat->Int)(y:aQ w c 2 ng g)(z:A<4)(H:X<ng)(s:g (2*X)=lo)(v:g (2*X+1)=hi)(t:lo<=hi)(o:hi<=99):Xe WL 203 #[.pointer (WJ ⟨j,0,WN⟩),.agg #[.int .i64 k,.int .i64 A,.int .i64 X,.int .i64 C]] w λe w'=>e=.returned (.tuple #[])/\bj w' B j u a b c d n {m with r:=upd m.r A (dG m.hs m.vl lo (hi+1-lo))}/\WZ B w w':=by
 have l:WZ B w (w.alloc (.cells #[.int .i64 k,.int .i64 A,.int .i64 X,.int .i64 C] 161)):=(WM _ _).alloc h.jy _;have f:=h.aZ ((WM _ _).alloc (WO _) (.cells #[.int .i64 k,.int .i64 A,.int .i64 X,.int .i64 C] 161));have q:=y.alloc (.cells #[.int .i64 k,.int .i64 A,.int .i64 X,.int .i64 C] 161);obtain⟨i0,i1,i2,i3⟩:=oj w k A X C;have I:(A:Int)<4:=by omega
 have F:(0:Int)<=(A:Int):=by omega
 have J:w.heap.size<(w.alloc (.cells #[.int .i64 k,.int .i64 A,.int .i64 X,.int .i64 C] 161)).heap.size:=by simp
 go_enter Tryz.func203,Tryz.ntmps203;go_wp2_with fail;clear h y;generalize(w.alloc (.cells #[.int .i64 k,.int .i64 A,.int .i64 X,.int .i64 C] 161))=w1 at*;obtain⟨N,G,-⟩:=f.ex;have M:=G.frozen;go_region_with(go_at_call 204;refine(Gd B j u a b c d n m w1.drew f.drew ng g (q.below (WM _ _).drew) X lo hi H s v t o).mono ?_;rintro e w2⟨rfl,x,D⟩;have L:w2.cell? ⟨w.heap.size,1,WN⟩=WJ (.int .i64 A):=(by rw[D.cell (p:=⟨w.heap.size,1,WN⟩) J];exact i1);obtain⟨E,i,-⟩:=x.ex;have c2:=kl i z;have K:=i.frozen);all_goals(go_end0;exact⟨rfl,x.sc z _,((l.drew).trans (D.mono f.drew.jy)).setCell f.ge.1 _⟩)
theorem Sw(B j u:Nat)(a b c d:WH)(n:Nat)(m:aV)(w:WK)(h:bj w B j u a b c d n m)(k C:Int)(A X lo hi ng:Nat)(g:Nat->Int)(y:aQ w c 2 ng g)(z:A<4)(H:X<ng)(s:g (2*X)=lo)(v:g (2*X+1)=hi)(t:lo<=hi)(o:hi<=99):Xe WL 205 #[.pointer (WJ ⟨j,0,WN⟩),.agg #[.int .i64 k,.int .i64 A,.int .i64 X,.int .i64 C]] w λe w'=>e=.returned (.tuple #[])/\bj w' B j u a b c d n {m with r:=upd m.r A (fg m.hs lo (hi+1-lo):Nat)}/\WZ B w w':=by
 have l:WZ B w (w.alloc (.cells #[.int .i64 k,.int .i64 A,.int .i64 X,.int .i64 C] 161)):=(WM _ _).alloc h.jy _;have f:=h.aZ ((WM _ _).alloc (WO _) (.cells #[.int .i64 k,.int .i64 A,.int .i64 X,.int .i64 C] 161));have q:=y.alloc (.cells #[.int .i64 k,.int .i64 A,.int .i64 X,.int .i64 C] 161);obtain⟨i0,i1,i2,i3⟩:=oj w k A X C;have I:(A:Int)<4:=by omega
 have F:(0:Int)<=(A:Int):=by omega
 have J:w.heap.size<(w.alloc (.cells #[.int .i64 k,.int .i64 A,.int .i64 X,.int .i64 C] 161)).heap.size:=by simp
 go_enter Tryz.func205,Tryz.ntmps205;go_wp2_with fail;clear h y;generalize(w.alloc (.cells #[.int .i64 k,.int .i64 A,.int .i64 X,.int .i64 C] 161))=w1 at*;obtain⟨N,G,-⟩:=f.ex;have M:=G.frozen;go_region_with(go_at_call 204;refine(Gd B j u a b c d n m w1.drew f.drew ng g (q.below (WM _ _).drew) X lo hi H s v t o).mono ?_;rintro e w2⟨rfl,x,D⟩;have L:w2.cell? ⟨w.heap.size,1,WN⟩=WJ (.int .i64 A):=(by rw[D.cell (p:=⟨w.heap.size,1,WN⟩) J];exact i1);obtain⟨E,i,-⟩:=x.ex;have c2:=kl i z;have K:=i.frozen);all_goals(go_end0;exact⟨rfl,x.sc z _,((l.drew).trans (D.mono f.drew.jy)).setCell f.ge.1 _⟩)
def ji(t:az)(X:Int):Nat:=(t.g (2*X.toNat)).toNat
def lu(t:az)(X:Int):Nat:=(t.g (2*X.toNat+1)).toNat
def jm(t:az)(K A X C:Int)(m:aV):aV:=if K=1 then{m with r:=upd m.r A.toNat X}else if K=2 then{m with r:=upd m.r A.toNat (valOf m.hs m.vl X.toNat)}else if K=3 then{m with hs:=upd m.hs A.toNat WI,vl:=upd m.vl A.toNat (m.r X.toNat),ch:=m.ch++[⟨A.toNat,m.r X.toNat,WR⟩]}else if K=4 then{m with hs:=upd m.hs A.toNat WR,ch:=m.ch++[⟨A.toNat,0,WI⟩]}else if K=5 then{m with r:=upd m.r A.toNat (dG m.hs m.vl (ji t X) (lu t X+1-ji t X))}else if K=6 then{m with r:=upd m.r A.toNat (fg m.hs (ji t X) (lu t X+1-ji t X):Nat)}else if K=7 then{m with r:=upd m.r A.toNat (wrap64 (m.r X.toNat+m.r C.toNat))}else if K=8 then{m with r:=upd m.r A.toNat (wrap64 (m.r X.toNat-m.r C.toNat))}else if K=9 then{m with nx:=if m.r A.toNat<m.r X.toNat then C.toNat else m.nx}else{m with ab:=WI,ch:=[],nx:=t.nc}
def dL(t:az)(m:aV):aV:=jm t (t.c (4*m.nx)) (t.c (4*m.nx+1)) (t.c (4*m.nx+2)) (t.c (4*m.nx+3)) {m with nx:=m.nx+1}
def runM(t:az):Nat->aV->aV|0,m=>m|f+1,m=>if m.nx<t.nc then runM t f (dL t m)else m
def rj(K:Int):FuncId:=if K=1 then 197 else if K=2 then 198 else if K=3 then 199 else if K=4 then 201 else if K=5 then 203 else if K=6 then 205 else if K=7 then 206 else if K=8 then 207 else if K=9 then 208 else 209
theorem dt{n lo hi:Int}(h:aI n lo hi=WI)(a:0<=lo):∃k:Nat,n=k/\lo<=k/\(k:Int)<=hi:=by simp only[aI,WG,decide_eq_true_eq]at h;exact⟨n.toNat,by omega,by omega,by omega⟩
theorem nM{n:Nat}{f:Nat->Int}{x:Int}(h:hasB n f x=WI)(hk:fE n f=WI):∃k:Nat,x=k/\k<100:=by obtain⟨i,hi,a⟩:=lf h;simp only[fE,WG]at hk;have:=gi hk.2 hi;rw[beq_iff_eq]at a;rw[a]at this;obtain⟨k,rfl,_,b⟩:=dt this (WQ 0);exact⟨k,rfl,by omega⟩
structure ia(t:az):Prop where
 ok:cY t=WI
 wf:∀j,j<t.nc*4->(Xg .i64 (t.c j)).wf=WI
theorem ia.keys{t:az}(h:ia t):fE t.nr t.r=WI/\fE t.nw t.wr=WI/\jN t.ng t.g=WI/\t.nc<=16/\bF (ju t) t.nc=WI:=by have:=h.ok;simp only[cY,cD,WG,decide_eq_true_eq]at this;exact⟨this.1.1.1,this.1.1.2,this.1.2,this.2.1,this.2.2⟩
theorem ia.range{t:az}(h:ia t){j:Nat}(b:j<t.ng):∃lo hi:Nat,t.g (2*j)=lo/\t.g (2*j+1)=hi/\lo<=hi/\hi<=99:=by have:=h.keys.2.2.1;simp only[jN,WG]at this;have:=gi this.2 b;simp only[gY,WG,decide_eq_true_eq]at this;obtain⟨⟨a,c⟩,f⟩:=this;obtain⟨lo,e1,d,e⟩:=dt a (WQ 0);obtain⟨hi,e2,b1,b2⟩:=dt c (WQ 0);exact⟨lo,hi,e1,e2,by omega,by omega⟩
def FP(m:aV):Prop:=∀i,i<4->(Xg .i64 (m.r i)).wf=WI
theorem VA(t:az)(T:ia t)(B l o:Nat)(a b c d:WH)(n:Nat)(m:aV)(w:WK)(h:bj w B l o a b c d n m)(u:dr w a b c d t)(I:FP m)(J:n<=100000)(D:m.ch.length<=1000)(at':Nat)(y:at'<t.nc):Xe WL (rj (t.c (4*at'))) #[.pointer (WJ ⟨l,0,WN⟩),.agg #[.int .i64 (t.c (4*at')),.int .i64 (t.c (4*at'+1)),.int .i64 (t.c (4*at'+2)),.int .i64 (t.c (4*at'+3))]] w λe w'=>e=.returned (.tuple #[])/\bj w' B l o a b c d (n+1) (jm t (t.c (4*at')) (t.c (4*at'+1)) (t.c (4*at'+2)) (t.c (4*at'+3)) m)/\WZ B w w':=by
 obtain⟨k1,k2,k3,k4,k5⟩:=T.keys;have i:=gi k5 y;unfold ju at i;have L:=T.wf (4*at'+2) (by omega);generalize t.c (4*at')=K at*;generalize t.c (4*at'+1)=A at*;generalize t.c (4*at'+2)=X at*;generalize t.c (4*at'+3)=C at*;unfold eP at i;have up:∀{w':WK}{m':aV},bj w' B l o a b c d n m'->bj w' B l o a b c d (n+1) m':=λh=>⟨h.ge,h.ex,h.dT.step⟩;by_cases e1:K=1;·subst e1;rw[if_pos rfl]at i;obtain⟨A,rfl,_,p⟩:=dt i (WQ 0);refine(Ix B l o a b c d n m w h 1 X C A (by omega)).mono λe w' f=>⟨f.1,up ?_,f.2.2⟩;simpa[jm]using f.2.1
 by_cases e2:K=2;·subst e2;rw[if_neg (by omega),if_pos rfl,WG,Xa]at i;obtain⟨A,rfl,_,p⟩:=dt i.1 (WQ 0);obtain⟨X,rfl,q⟩:∃k:Nat,X=k/\k<100:=i.2.elim (λh=>nM h k1) (λh=>nM h k2);refine(KS B l o a b c d n m w h 2 C A X (by omega) q).mono λe w' f=>⟨f.1,up ?_,f.2.2⟩;simpa[jm]using f.2.1
 by_cases e3:K=3;·subst e3;rw[if_neg (by omega),if_neg (by omega),if_pos rfl,WG]at i;obtain⟨A,rfl,p⟩:=nM i.1 k2;obtain⟨X,rfl,_,q⟩:=dt i.2 (WQ 0);refine(VV B l o a b c d n m w h 3 C A X p (by omega) (I X (by omega)) J D).mono λe w' f=>⟨f.1,?_,f.2.2⟩;simpa[jm]using f.2.1
 by_cases z:K=4;·subst z;rw[if_neg (by omega),if_neg (by omega),if_neg (by omega),if_pos rfl]at i;obtain⟨A,rfl,p⟩:=nM i k2;refine(PG B l o a b c d n m w h 4 X C A p D).mono λe w' f=>⟨f.1,up ?_,f.2.2⟩;simpa[jm]using f.2.1
 by_cases e5:K=5;·subst e5;rw[if_neg (by omega),if_neg (by omega),if_neg (by omega),if_neg (by omega),if_pos (.inl rfl),WG]at i;obtain⟨A,rfl,_,p⟩:=dt i.1 (WQ 0);obtain⟨X,rfl,_,q⟩:=dt i.2 (WQ 0);obtain⟨lo,hi,r,s,x,v⟩:=T.range (j:=X) (by omega);refine(VO B l o a b c d n m w h 5 C A X lo hi t.ng t.g u.g (by omega) (by omega) r s x v).mono λe w' f=>⟨f.1,up ?_,f.2.2⟩;simpa[jm,ji,lu,r,s]using f.2.1
 by_cases e6:K=6;·subst e6;rw[if_neg (by omega),if_neg (by omega),if_neg (by omega),if_neg (by omega),if_pos (.inr rfl),WG]at i;obtain⟨A,rfl,_,p⟩:=dt i.1 (WQ 0);obtain⟨X,rfl,_,q⟩:=dt i.2 (WQ 0);obtain⟨lo,hi,r,s,x,v⟩:=T.range (j:=X) (by omega);refine(Sw B l o a b c d n m w h 6 C A X lo hi t.ng t.g u.g (by omega) (by omega) r s x v).mono λe w' f=>⟨f.1,up ?_,f.2.2⟩;simpa[jm,ji,lu,r,s]using f.2.1
 by_cases M:K=7;·subst M;rw[if_neg (by omega),if_neg (by omega),if_neg (by omega),if_neg (by omega),if_neg (by omega),if_pos (.inl rfl),WG,WG]at i;obtain⟨A,rfl,_,p⟩:=dt i.1.1 (WQ 0);obtain⟨X,rfl,_,q⟩:=dt i.1.2 (WQ 0);obtain⟨C,rfl,_,F⟩:=dt i.2 (WQ 0);refine(Jc B l o a b c d n m w h 7 A X C (by omega) (by omega) (by omega)).mono λe w' f=>⟨f.1,up ?_,f.2.2⟩;simpa[jm]using f.2.1
 by_cases H:K=8;·subst H;rw[if_neg (by omega),if_neg (by omega),if_neg (by omega),if_neg (by omega),if_neg (by omega),if_pos (.inr rfl),WG,WG]at i;obtain⟨A,rfl,_,p⟩:=dt i.1.1 (WQ 0);obtain⟨X,rfl,_,q⟩:=dt i.1.2 (WQ 0);obtain⟨C,rfl,_,F⟩:=dt i.2 (WQ 0);refine(Q1 B l o a b c d n m w h 8 A X C (by omega) (by omega) (by omega)).mono λe w' f=>⟨f.1,up ?_,f.2.2⟩;simpa[jm]using f.2.1
 by_cases E:K=9;·subst E;rw[if_neg (by omega),if_neg (by omega),if_neg (by omega),if_neg (by omega),if_neg (by omega),if_neg (by omega),if_pos rfl,WG,WG]at i;obtain⟨A,rfl,_,p⟩:=dt i.1.1 (WQ 0);obtain⟨X,rfl,_,q⟩:=dt i.1.2 (WQ 0);obtain⟨C,rfl,_,F⟩:=dt i.2 (by omega);refine(KQ B l o a b c d n m w h 9 A X C (by omega) (by omega)).mono λe w' f=>⟨f.1,up ?_,f.2.2⟩;simpa[jm]using f.2.1
 ·rw[if_neg e1,if_neg e2,if_neg e3,if_neg z,if_neg (by omega),if_neg (by omega),if_neg E,beq_iff_eq]at i;subst i;obtain⟨G,N,rfl,-⟩:=u.c;refine(Qu B l o a b c G t.nc N n m w h 10 A X C).mono λe w' f=>⟨f.1,up ?_,f.2.2⟩;simpa[jm]using f.2.1
end
section
open Go.RowKit
def pF(l:List (Nat×Int)):(Nat->Bool)×(Nat->Int):=l.foldl (λs p=>(upd s.1 p.1 WI,upd s.2 p.1 p.2)) (λ_=>WR,λ_=>0)
def kI(l:List (Nat×Int)):aV:=⟨WR,λ_=>0,[],(pF l).1,(pF l).2,0⟩
def dv(t:az)(l:List (Nat×Int)):aV:=runM t t.nc (kI l)
theorem TA{l:List (Nat×Int)}{k:Nat}{p:Nat×Int}(h:l[k]?=WJ p):kI (l.take (k+1))={kI (l.take k)with hs:=upd (kI (l.take k)).hs p.1 WI,vl:=upd (kI (l.take k)).vl p.1 p.2}:=by
 have:pF (l.take (k+1))=(upd (pF (l.take k)).1 p.1 WI,upd (pF (l.take k)).2 p.1 p.2):=by rw[List.take_add_one,h];simp[pF,Xh]
 simp[kI,this]
abbrev bn(x:Int):Prop:=(Xg .i64 x).wf=WI
structure im(t:az)(m:aV):Prop where
 Co:FP m
 VB:∀k,m.hs k=WI->bn (m.vl k)
 nx:m.nx<=t.nc
 len:m.ch.length<=m.nx
 keys:∀c∈m.ch,c.key<100/\bn c.val/\(c.del=WI->c.val=0)
theorem Nc{r:Nat->Int}(h:∀i,i<4->bn (r i))(A:Nat){x:Int}(a:bn x):∀i,i<4->bn (upd r A x i):=by
 intro i hi;unfold upd;split;·exact a
 ·exact h i hi
theorem xu{n:Nat}(h:n<=1000):bn (n:Int):=WalkArith.wf_i64 (by omega)
theorem RL{hs:Nat->Bool}{vl:Nat->Int}(h:∀k,hs k=WI->bn (vl k))(k:Nat):bn (valOf hs vl k):=by
 unfold valOf;split;·exact h k (by assumption)
 ·exact xu (n:=0) (by omega)
theorem Gz(t:az){l:List (Nat×Int)}(h:∀p∈l,bn p.2):im t (kI l):=by
 refine⟨λi _=>xu (n:=0) (by omega),?_,Xo _,Xo _,by simp[kI]⟩;have:∀(l:List (Nat×Int))(s:(Nat->Bool)×(Nat->Int)),(∀k,s.1 k=WI->bn (s.2 k))->(∀p∈l,bn p.2)->∀k,(l.foldl (λs p=>(upd s.1 p.1 WI,upd s.2 p.1 p.2)) s).1 k=WI->bn ((l.foldl (λs p=>(upd s.1 p.1 WI,upd s.2 p.1 p.2)) s).2 k):=by intro l;induction l with|nil=>intro s hs _ k hk;exact hs k hk|cons p l d=>intro s hs b;refine d _ ?_ (λq c=>b q (by simp[c]));intro k hk;simp only[upd]at hk⊢;split;(·exact b p (by simp));·rename_i a;rw[if_neg a]at hk;exact hs k hk
 exact this l _ (λk hk=>by cases hk) h
theorem im.step{t:az}(T:ia t){m:aV}(h:im t m)(d:m.nx<t.nc):im t (dL t m)/\m.nx<(dL t m).nx:=by
 obtain⟨k1,k2,k3,k4,k5⟩:=T.keys;have b:=gi k5 d;unfold ju at b;have u:=T.wf (4*m.nx+2) (by omega);unfold dL;generalize t.c (4*m.nx)=K at*;generalize t.c (4*m.nx+1)=A at*;generalize t.c (4*m.nx+2)=X at*;generalize t.c (4*m.nx+3)=C at*;unfold eP at b;unfold jm;obtain⟨i,g,H,G,y⟩:=h;have a:∀(A:Nat){x:Int},bn x->im t {m with nx:=m.nx+1,r:=upd m.r A x}/\m.nx<m.nx+1:=λA x f=>⟨⟨Nc i A f,g,d,by show m.ch.length<=m.nx+1;omega,y⟩,XA _⟩;have l:∀(hs:Nat->Bool)(vl:Nat->Int)(c:fy),(∀k,hs k=WI->bn (vl k))->c.key<100/\bn c.val/\(c.del=WI->c.val=0)->im t {m with nx:=m.nx+1,hs:=hs,vl:=vl,ch:=m.ch++[c]}/\m.nx<m.nx+1:=λhs vl c p o=>⟨⟨i,p,d,by show(m.ch++[c]).length<=m.nx+1;simp;omega,λx f=>by rcases W3.1 f with f|f;(·exact y x f);·simp only[WX]at f;subst f;exact o⟩,XA _⟩;by_cases e1:K=1;·rw[if_pos e1];exact a _ u
 rw[if_neg e1];rw[if_neg e1]at b;by_cases e2:K=2;·rw[if_pos e2];exact a _ (RL g _)
 rw[if_neg e2];rw[if_neg e2]at b;by_cases e3:K=3;·rw[if_pos e3];rw[if_pos e3,WG]at b;obtain⟨A,rfl,w⟩:=nM b.1 k2;obtain⟨X,rfl,_,E⟩:=dt b.2 (WQ 0);have f:bn (m.r X):=i X (by omega);refine l _ _ ⟨A,m.r X,WR⟩ (λk hk=>?_) ⟨w,f,λe=>by cases e⟩;simp only[W5]at hk⊢;unfold upd at hk⊢;split;(·exact f);·rename_i v;rw[if_neg v]at hk;exact g k hk
 rw[if_neg e3];rw[if_neg e3]at b;by_cases q:K=4;·rw[if_pos q];rw[if_pos q]at b;obtain⟨A,rfl,w⟩:=nM b k2;refine l _ m.vl ⟨A,0,WI⟩ (λk hk=>g k ?_) ⟨w,xu (n:=0) (by omega),λ_=>rfl⟩;unfold upd at hk;split at hk;(·cases hk);·exact hk
 rw[if_neg q];rw[if_neg q]at b;by_cases e5:K=5;·rw[if_pos e5];exact a _ (Fy _ _ _ _)
 rw[if_neg e5];by_cases e6:K=6;·rw[if_pos e6];rw[if_pos (.inr e6),WG]at b;obtain⟨X,rfl,_,E⟩:=dt b.2 (WQ 0);obtain⟨lo,hi,p,o,J,I⟩:=T.range (j:=X) (by omega);refine a _ (xu ?_);refine Xj (mU _ _) ?_;simp[ji,lu,p,o];omega
 rw[if_neg e6];rw[if_neg (by omega)]at b;by_cases B:K=7;·rw[if_pos B];exact a _ (wrap64_wf _)
 rw[if_neg B];by_cases z:K=8;·rw[if_pos z];exact a _ (wrap64_wf _)
 rw[if_neg z];rw[if_neg (by omega)]at b;by_cases s:K=9;·rw[if_pos s];rw[if_pos s,WG,WG]at b;obtain⟨C,rfl,F,D⟩:=dt b.2 (by omega);have:∀x,m.nx+1<=x->x<=t.nc->im t {m with nx:=x}/\m.nx<x:=λx p o=>⟨⟨i,g,o,by show m.ch.length<=x;omega,y⟩,p⟩;simp only[W5];split;(·exact this C (by omega) (by omega));·exact this (m.nx+1) (WO _) d
 rw[if_neg s];exact⟨⟨i,g,WO _,Xo _,by simp⟩,d⟩
theorem Ae{t:az}(T:ia t):∀(f:Nat)(m:aV),im t m->t.nc-m.nx<=f->runM t f m=runM t (t.nc-m.nx) m|0,m,_,h=>by rw[show t.nc-m.nx=0 by omega]|f+1,m,c,h=>by by_cases a:m.nx<t.nc;(·obtain⟨b,i⟩:=c.step T a;have e:∃g,t.nc-m.nx=g+1:=⟨t.nc-m.nx-1,by omega⟩;obtain⟨g,d⟩:=e;rw[d];unfold runM;rw[if_pos a,if_pos a,Ae T f _ b (by omega),<-Ae T g _ b (by omega)]);·rw[show t.nc-m.nx=0 by omega];unfold runM;rw[if_neg a]
def pQ(t:az)(m:aV):aV:=runM t (t.nc-m.nx) m
theorem LD{t:az}(T:ia t){m:aV}(h:im t m)(a:m.nx<t.nc):pQ t m=pQ t (dL t m):=by
 obtain⟨b,d⟩:=h.step T a;unfold pQ;obtain⟨g,c⟩:∃g,t.nc-m.nx=g+1:=⟨t.nc-m.nx-1,by omega⟩;rw[c];conv=>lhs;unfold runM
 rw[if_pos a,Ae T g _ b (by omega)]
theorem I2{t:az}{m:aV}(h:¬m.nx<t.nc):pQ t m=m:=by unfold pQ;rw[show t.nc-m.nx=0 by omega];rfl
theorem TE(t:az)(l:List (Nat×Int)):pQ t (kI l)=dv t l:=rfl
end
section
structure Good(D:aH):Prop where
 nb:D.nb<=3
 nl:D.nl<=24
 Eu:bF (dJ 1 D.fb) D.nb=WI
 ah:bF (λi=>cY (D.ts i)) D.nl=WI
theorem within_iff{n lo hi:Int}:aI n lo hi=WI↔lo<=n/\n<=hi:=by simp[aI]
theorem ES{lo:Int}{f:Nat->Int}{n j:Nat}(h:bF (dJ lo f) n=WI)(a:j+1<n):f j<f (j+1):=by have:=gi h a;simp only[dJ,within_iff]at this;omega
theorem Cw{lo:Int}{f:Nat->Int}{n:Nat}(h:bF (dJ lo f) n=WI):∀d i,i+d+1<n->f i<f (i+d+1)|0,i,hi=>ES h hi|d+1,i,hi=>by have a:=Cw h d i (by omega);have b:=ES (j:=i+d+1) h (by omega);(have e:i+(d+1)+1=i+d+1+1:=by omega);rw[e];omega
theorem Rz{lo:Int}{f:Nat->Int}{n i j:Nat}(h:bF (dJ lo f) n=WI)(a:i<j)(b:j<n):f i<f j:=by
 have:=Cw h (j-i-1) i (by omega);have e:i+(j-i-1)+1=j:=by omega
 rw[e]at this;exact this
theorem FV{f:Nat->Int}{n:Nat}(x:Int)(inc:∀i j,i<j->j<n->f i<f j):∀m,m<=n->∀i,i<m->(f i<=x↔i<bK (λi=>decide (f i<=x)) m)|0,_,i,hi=>by omega|m+1,d,i,hi=>by have b:=FV x inc m (by omega);have c:=mU (λi=>decide (f i<=x)) m;by_cases a:f m<=x;(·(have all:bK (λi=>decide (f i<=x)) m=m:=by cases m with|zero=>rfl|succ k=>have g:=(b k (by omega)).1 (by have:=inc k (k+1) (by omega) (by omega);omega);omega);rw[wI (p:=λi=>decide (f i<=x)) (k:=m) (by simpa using a),all];constructor;(·intro _;omega);·intro _;by_cases e:i=m;(·rw[e];exact a);·have:=inc i m (by omega) (by omega);omega);·rw[wE (p:=λi=>decide (f i<=x)) (k:=m) (by simpa using a)];by_cases e:i=m;(·subst e;constructor;(·intro h;omega);·intro h;omega);·exact b i (by omega)
theorem Cf{p q:Nat->Bool}(h:∀i,p i=WI->q i=WI):∀n,bK p n<=bK q n|0=>WO _|n+1=>by have:=Cf h n;simp only[bK];cases a:p n with|false=>simp;split<;>omega|true=>simp[h n a];omega
theorem CN(nb:Nat)(fb:Nat->Int){x y:Int}(h:x<=y):ck nb fb x<=ck nb fb y:=Cf (λi hi=>by simp at hi⊢;omega) nb
theorem AX(nb:Nat)(fb:Nat->Int)(x:Int):ck nb fb x<=nb:=mU _ _
theorem Good.inc{D:aH}(G:Good D):∀i j,i<j->j<D.nb->D.fb i<D.fb j:=λ_ _ h a=>Rz G.Eu h a
theorem Good.bound{D:aH}(G:Good D)(i:Nat)(h:i<D.nb):1<=D.fb i/\D.fb i<=99:=by
 have:∀k,k<=D.nb->∀j,j<k->1<=D.fb j/\D.fb j<=99:=by intro k;induction k with|zero=>intro _ j b;omega|succ k a=>intro hk j b;by_cases e:j=k;(·subst e;have:=gi G.Eu (k:=j) (by omega);cases j with|zero=>simp only[dJ,within_iff]at this;exact this|succ i=>simp only[dJ,within_iff]at this;have:=a (by omega) i (by omega);omega);·exact a (by omega) j (by omega)
 exact this D.nb (WO _) i h
theorem Good.key{D:aH}(G:Good D){i:Nat}(hi:i<D.nl):fE (D.ts i).nr (D.ts i).r=WI/\fE (D.ts i).nw (D.ts i).wr=WI/\jN (D.ts i).ng (D.ts i).g=WI:=by have:=gi G.ah hi;simp only[cY,WG]at this;exact⟨this.1.1.1,this.1.1.2,this.1.2⟩
theorem Good.E3{D:aH}(G:Good D){i:Nat}(hi:i<D.nl){j:Nat}(a:j<(D.ts i).nr):0<=(D.ts i).r j/\(D.ts i).r j<=99:=by have:=(G.key hi).1;simp only[fE,WG]at this;exact within_iff.1 (gi this.2 a)
theorem Good.Fe{D:aH}(G:Good D){i:Nat}(hi:i<D.nl){j:Nat}(a:j<(D.ts i).nw):0<=(D.ts i).wr j/\(D.ts i).wr j<=99:=by have:=(G.key hi).2.1;simp only[fE,WG]at this;exact within_iff.1 (gi this.2 a)
theorem Good.GO{D:aH}(G:Good D){i:Nat}(hi:i<D.nl){j:Nat}(a:j<(D.ts i).ng):0<=(D.ts i).g (2*j)/\(D.ts i).g (2*j)<=(D.ts i).g (2*j+1)/\(D.ts i).g (2*j+1)<=99:=by have:=(G.key hi).2.2;simp only[jN,WG]at this;have:=gi this.2 a;simp only[gY,WG,within_iff,decide_eq_true_eq]at this;omega
theorem Good.reach{D:aH}(G:Good D){i:Nat}(hi:i<D.nl){j:Nat}(s:j<(D.ts i).ng){p:Nat}(h:kF D.nb D.fb p ((D.ts i).g (2*j)) ((D.ts i).g (2*j+1))=WI):∃k:Nat,k<100/\lT (D.ts i) k j=WI/\ck D.nb D.fb k=p:=by
 obtain⟨u,w,t⟩:=G.GO hi s;simp only[kF,WG,decide_eq_true_eq]at h;have pre:=λx=>FV (n:=D.nb) x G.inc D.nb (WO _);by_cases e:ck D.nb D.fb ((D.ts i).g (2*j))=p;·refine⟨((D.ts i).g (2*j)).toNat,by omega,?_,?_⟩;(·simp only[lT,WG,decide_eq_true_eq];omega);·rw[show(((D.ts i).g (2*j)).toNat:Int)=(D.ts i).g (2*j)from by omega];exact e
 ·have r:=AX D.nb D.fb ((D.ts i).g (2*j+1));(have c:p-1<D.nb:=by omega);have b:=G.bound (p-1) c;(have lo:¬D.fb (p-1)<=(D.ts i).g (2*j):=λm=>by have l:=(pre ((D.ts i).g (2*j)) (p-1) c).1 m;(have f:ck D.nb D.fb ((D.ts i).g (2*j))<=p:=by omega);simp only[ck]at e f;omega);have q:D.fb (p-1)<=(D.ts i).g (2*j+1):=(pre ((D.ts i).g (2*j+1)) (p-1) c).2 (by(have:p<=ck D.nb D.fb ((D.ts i).g (2*j+1)):=by omega);simp only[ck]at this;omega);refine⟨(D.fb (p-1)).toNat,by omega,?_,?_⟩;(·simp only[lT,WG,decide_eq_true_eq];omega);·rw[show((D.fb (p-1)).toNat:Int)=D.fb (p-1)from by omega];have v:=(pre (D.fb (p-1)) (p-1) c).1 (by omega);(have o:ck D.nb D.fb (D.fb (p-1))<=p:=by rcases Xk p D.nb with a|a;(·(have l:¬D.fb p<=D.fb (p-1):=by have:=G.inc (p-1) p (by omega) a;omega);have f:=(pre (D.fb (p-1)) p a).2;rcases Xk p (ck D.nb D.fb (D.fb (p-1)))with d|d;(·exact absurd (f d) l);·exact d);·have:=AX D.nb D.fb (D.fb (p-1));omega);simp only[ck]at o⊢;omega
theorem Good.MW{D:aH}(G:Good D){i:Nat}(hi:i<D.nl)(d:¬(D.ts i).nr+(D.ts i).nw+(D.ts i).ng=0):∃k:Nat,k<100/\cg (D.ts i) k=WI:=by
 by_cases a:0<(D.ts i).nr;·have:=G.E3 hi a;refine⟨((D.ts i).r 0).toNat,by omega,?_⟩;rw[show(((D.ts i).r 0).toNat:Int)=(D.ts i).r 0 from by omega,cg,hasB,fQ (p:=λj=>(D.ts i).r j==(D.ts i).r 0) a (by simp)];rfl
 ·by_cases c:0<(D.ts i).nw;(·have:=G.Fe hi c;refine⟨((D.ts i).wr 0).toNat,by omega,?_⟩;rw[show(((D.ts i).wr 0).toNat:Int)=(D.ts i).wr 0 from by omega,cg];rw[show hasB (D.ts i).nw (D.ts i).wr ((D.ts i).wr 0)=WI from fQ (p:=λj=>(D.ts i).wr j==(D.ts i).wr 0) c (by simp)];simp);·(have b:0<(D.ts i).ng:=by omega);have:=G.GO hi b;refine⟨((D.ts i).g (2*0)).toNat,by omega,?_⟩;rw[show(((D.ts i).g (2*0)).toNat:Int)=(D.ts i).g (2*0)from by omega,cg];rw[show bO (lT (D.ts i) ((D.ts i).g (2*0))) (D.ts i).ng=WI from fQ b (by simp only[lT,WG,decide_eq_true_eq];omega)];simp
theorem Gj{t:az}(d:t.nr+t.nw+t.ng=0)(x:Int):cg t x=WR:=by
 have c:t.nr=0:=by omega
 have a:t.nw=0:=by omega
 have b:t.ng=0:=by omega
 simp[cg,hasB,c,a,b,bO]
theorem Good.Sb{D:aH}(G:Good D){i:Nat}(hi:i<D.nl)(p:Nat):xZ D i p=bG D i p:=by
 by_cases d:(D.ts i).nr+(D.ts i).nw+(D.ts i).ng=0;·(have e1:bO (λk=>cg (D.ts i) k&&((ck D.nb D.fb k:Int)==(p:Int))) 100=WR:=by cases e:bO (λk=>cg (D.ts i) k&&((ck D.nb D.fb k:Int)==(p:Int))) 100 with|false=>rfl|true=>obtain⟨k,_,hk⟩:=lf e;simp[Gj d]at hk);(have e2:bO (λk=>cg (D.ts i) k) 100=WR:=by cases e:bO (λk=>cg (D.ts i) k) 100 with|false=>rfl|true=>obtain⟨k,_,hk⟩:=lf e;simp[Gj d]at hk);rw[xZ,e1,e2,bG,if_pos d];rfl
 ·obtain⟨q,m,o⟩:=G.MW hi d;have e2:bO (λk=>cg (D.ts i) k) 100=WI:=fQ m o;rw[xZ,e2,bG,if_neg d];simp only[Bool.not_true,Bool.false_and,Xs];rw[Xm];constructor;(·intro h;obtain⟨k,hk,f⟩:=lf h;simp only[WG,beq_iff_eq]at f;obtain⟨c,l⟩:=f;simp only[cg,Xa]at c;rcases c with(c|c)|c;(·obtain⟨j,b,a⟩:=lf c;rw[beq_iff_eq]at a;rw[show oo D p (D.ts i).nr (D.ts i).r=WI from fQ b (by rw[a,beq_iff_eq];exact l)];rfl);(·obtain⟨j,b,a⟩:=lf c;simp only[lT,WG,decide_eq_true_eq]at a;have t:=CN D.nb D.fb a.1;have s:=CN D.nb D.fb a.2;rw[show wM D p (D.ts i).ng (D.ts i).g=WI from fQ b (by simp only[kF,WG,decide_eq_true_eq];omega)];simp);·obtain⟨j,b,a⟩:=lf c;rw[beq_iff_eq]at a;rw[show oo D p (D.ts i).nw (D.ts i).wr=WI from fQ b (by rw[a,beq_iff_eq];exact l)];simp);·intro h;simp only[Xa]at h;rcases h with(h|h)|h;(·obtain⟨j,b,a⟩:=lf h;have:=G.E3 hi b;refine fQ (k:=((D.ts i).r j).toNat) (by omega) ?_;rw[show(((D.ts i).r j).toNat:Int)=(D.ts i).r j from by omega,a,cg];rw[show hasB (D.ts i).nr (D.ts i).r ((D.ts i).r j)=WI from fQ b (by simp)];rfl);(·obtain⟨j,b,a⟩:=lf h;have:=G.Fe hi b;refine fQ (k:=((D.ts i).wr j).toNat) (by omega) ?_;rw[show(((D.ts i).wr j).toNat:Int)=(D.ts i).wr j from by omega,a,cg];rw[show hasB (D.ts i).nw (D.ts i).wr ((D.ts i).wr j)=WI from fQ b (by simp)];simp);·obtain⟨j,b,a⟩:=lf h;obtain⟨k,hk,n,l⟩:=G.reach hi b a;refine fQ (k:=k) hk ?_;rw[l,cg];rw[show bO (lT (D.ts i) k) (D.ts i).ng=WI from fQ b n];simp
end
section
open Go.RowKit Go.Maps
theorem Tryz.Rh:(Tryz.prog.info? 131).map (λi=>(i.zero,i.size,i.bytes))=WJ (WJ (.agg #[.map WN,.pointer WN,.int .i64 0,.int .i64 0,.slice WN 0 0,.slice WN 0 0,.slice WN 0 0,.slice WN 0 0,.slice WN 0 0,.slice WN 0 0]),10,176):=by kernel_rfl
def iJ(nb:Nat)(fb:Nat->Int)(fs:Nat->Int):Nat->Nat->Nat->Bool|0,_,_=>WR|n+1,p,k=>if ck nb fb (fs (2*n))=p/\fs (2*n)=k then WI else iJ nb fb fs n p k
def jc(nb:Nat)(fb:Nat->Int)(fs:Nat->Int):Nat->Nat->Nat->Int|0,_,_=>0|n+1,p,k=>if ck nb fb (fs (2*n))=p/\fs (2*n)=k then fs (2*n+1)else jc nb fb fs n p k
theorem P9(nb:Nat)(fb:Nat->Int)(x:Int):ck nb fb x<=nb:=mU _ _
theorem au.Mw{w:WK}{g T m:Nat}{c:Nat->WH}(h:au w g T m c){n b:Nat}{hs:Nat->Bool}{vl:Nat->Int}(f:dk n w b hs vl):g≠b:=by intro e;subst e;obtain⟨j,i,_⟩:=h;obtain⟨_,⟨es,a,d,_⟩,_⟩:=f;rw[i]at d;cases d
def zu(r:Nat):WH:=if r=0 then .map WN else if r=1 then .pointer WN else if r=2\/r=3 then .int .i64 0 else .slice WN 0 0
def pE(D:aH)(e:Nat)(M:Nat->Nat)(p r:Nat):WH:=if r=0 then .map (WJ (M p))else if r=1 then .pointer (WJ ⟨e,0,WN⟩)else if r=2 then .int .i64 (p:Nat)else if r=3 then .int .i64 (pX D (p:Int):Nat)else .slice WN 0 0
def gF(D:aH)(e:Nat)(M:Nat->Nat)(k:Nat)(j:Nat):WH:=if j<k*10 then pE D e M (j/10) (j%10)else zu (j%10)
theorem Ay(D:aH)(e:Nat)(M:Nat->Nat){k p r:Nat}(h:p<k)(a:r<10):gF D e M k (p*10+r)=pE D e M p r:=by unfold gF;rw[if_pos (by omega),show(p*10+r)/10=p from by omega,show(p*10+r)%10=r from by omega]
theorem RY(D:aH)(e:Nat)(M:Nat->Nat)(k m:Nat)(f:Nat->WH)(c:∀r,r<10->f (k*10+r)=pE D e (upd M k m) k r)(b:∀j,j<k*10\/k*10+10<=j->f j=gF D e M k j)(j:Nat):f j=gF D e (upd M k m) (k+1) j:=by
 by_cases a:j<k*10;·rw[b j (.inl a)];unfold gF;rw[if_pos a,if_pos (by omega)];unfold pE;rw[bC _ _ (by omega)]
 ·by_cases d:j<k*10+10;(·obtain⟨r,rfl⟩:∃r,j=k*10+r:=⟨j-k*10,by omega⟩;rw[c r (by omega),Ay _ _ _ (by omega) (by omega)]);·rw[b j (.inr (by omega))];unfold gF;rw[if_neg a,if_neg (by omega)]
end
section
structure ay where
 ah:Nat
 read:Bool
 kept:List (Nat×Int)
 aq:Nat->Bool
structure Part where
 hs:Nat->Bool
 vl:Nat->Int
 n:Nat
 up:Nat
 opn:List ay
 aY:Nat->List bl
 taken:List bl
structure nH where
 dn:Bool
 ab:Bool
 r:Nat->Int
structure aA where
 part:Nat->Part
 res:Nat->nH
structure ak where
 D:aH
 W:Nat
 C:Nat
 K:Nat
def fU(D:aH)(k:Nat):Nat:=ck D.nb D.fb k
def rW(D:aH)(a b p:Nat):Bool:=bO (λj=>(ck D.nb D.fb ((D.ts a).wr j)==p)&&cg (D.ts b) ((D.ts a).wr j)) (D.ts a).nw
def iU(D:aH)(a b p:Nat):Bool:=rW D a b p||rW D b a p
def iu(D:aH)(p i:Nat):Nat:=iw (λi=>bG D i p) (D.nl-i) i
def gG(hs:Nat->Bool)(vl:Nat->Int):Nat->List (Nat×Int)|0=>[]|k+1=>gG hs vl k++if hs k then[(k,vl k)]else[]
def oh(t:az)(hs:Nat->Bool)(vl:Nat->Int):List (Nat×Int):=(gG hs vl 100).filter λx=>cg t x.1
def jX(i:Nat):ay:=⟨i,WR,[],λ_=>WR⟩
def gI(c:ak)(p:Nat)(P:Part):Option Part:=if P.up<c.D.nl/\P.opn.length≠c.W then WJ {P with opn:=P.opn++[jX P.up],up:=iu c.D p (P.up+1)}else WN
def lZ(D:aH)(p:Nat)(l:List ay)(i:Nat):Bool:=l.all λe=>!iU D e.ah i p
def iO(D:aH)(p:Nat)(l:List ay)(at':Nat):Bool:=match l[at']? with|WJ e=>lZ D p (l.take at') e.ah|WN=>WR
def iy(f:ay->Bool)(l:List ay)(at':Nat):Bool:=match l[at']? with|WJ e=>f e|WN=>WR
def dP(D:aH)(p:Nat)(l:List ay)(at':Nat):Bool:=iy (λe=>!e.read) l at'&&iO D p l at'
def gR(D:aH)(p:Nat)(l:List ay):Nat:=iw (dP D p l) l.length 0
def mS(D:aH)(P:Part)(e:ay):ay:={e with read:=WI,kept:=e.kept++oh (D.ts e.ah) P.hs P.vl}
def gE(c:ak)(p:Nat)(P:Part):Option Part:=if gR c.D p P.opn<P.opn.length then WJ {P with opn:=P.opn.modify (gR c.D p P.opn) (mS c.D P)}else WN
def iH(D:aH)(q:Nat)(e:ay):Bool:=e.read&&!e.aq q&&bG D e.ah q
def eM(D:aH)(q:Nat)(l:List ay):Nat:=iw (iy (iH D q) l) l.length 0
def iI(q:Nat)(e:ay):ay:={e with aq:=upd e.aq q WI}
def jI(p:Nat)(l:List ay)(i:Nat):bl:=match l[i]? with|WJ e=>⟨p,e.ah,e.kept⟩|WN=>⟨p,0,[]⟩
def gH(q i:Nat)(P:Part):Part:={P with opn:=P.opn.modify i (iI q)}
def jA(p:Nat)(x:bl)(P:Part):Part:={P with aY:=upd P.aY p (P.aY p++[x])}
def iW(c:ak)(p q:Nat)(E:aA):Option aA:=if eM c.D q (E.part p).opn<(E.part p).opn.length/\((E.part q).aY p).length≠c.C then WJ ⟨upd (upd E.part p (gH q (eM c.D q (E.part p).opn) (E.part p))) q (jA p (jI p (E.part p).opn (eM c.D q (E.part p).opn)) (E.part q)),E.res⟩else WN
def gj(q:Nat)(P:Part):Option Part:=match P.aY q with|[]=>WN|x::l=>WJ {P with taken:=P.taken++[x],aY:=upd P.aY q l}
def qp(P:Part)(i q:Nat):Bool:=P.taken.any λt=>t.ah==i&&t.fr==q
def iF(D:aH)(p:Nat)(P:Part)(e:ay):Bool:=bF (λq=>q==p||!bG D e.ah q||(e.aq q&&qp P e.ah q)) (D.nb+1)
def cR(c:ak)(p:Nat)(P:Part):List ay:=(P.opn.filter λe=>e.read&&iF c.D p P e).take c.K
def qy(D:aH)(p:Nat)(s:(Nat->Bool)×(Nat->Int))(x:fy):(Nat->Bool)×(Nat->Int):=if fU D x.key=p then(if x.del then(upd s.1 x.key WR,s.2)else(upd s.1 x.key WI,upd s.2 x.key x.val))else s
def kS(D:aH)(p:Nat)(s:(Nat->Bool)×(Nat->Int))(l:List fy):(Nat->Bool)×(Nat->Int):=l.foldl (qy D p) s
def oC(D:aH)(P:Part)(e:ay):aV:=dv (D.ts e.ah) (e.kept++cZ e.ah P.taken)
def m9(D:aH)(p i:Nat)(m:aV)(P:Part):Part:={P with hs:=(kS D p (P.hs,P.vl) m.ch).1,vl:=(kS D p (P.hs,P.vl) m.ch).2,n:=P.n+m.ch.length,opn:=P.opn.filter (λe=>!(e.ah==i)),taken:=P.taken.filter (λt=>!(t.ah==i))}
def ez(D:aH)(p:Nat)(E:aA)(x:Nat×aV):aA:=⟨upd E.part p (m9 D p x.1 x.2 (E.part p)),upd E.res x.1 ⟨WI,x.2.ab,x.2.r⟩⟩
def gg(c:ak)(p:Nat)(P:Part):List (Nat×aV):=(cR c p P).map λe=>(e.ah,oC c.D P e)
def kY(c:ak)(p:Nat)(E:aA):Option aA:=if cR c p (E.part p)=[]then WN else WJ ((gg c p (E.part p)).foldl (ez c.D p) E)
def jW(E:aA)(p:Nat)(o:Option Part):Option aA:=o.map λP=>{E with part:=upd E.part p P}
def cf(c:ak)(E:aA)(p k q:Nat):Option aA:=if k=1 then jW E p (gI c p (E.part p))else if k=2 then jW E p (gE c p (E.part p))else if k=3 then(if q<=c.D.nb/\p≠q then iW c p q E else WN)else if k=4 then(if q<=c.D.nb/\p≠q then jW E p (gj q (E.part p))else WN)else if k=5 then kY c p E else WN
def bA(P:Part)(i:Nat):Bool:=decide (i<P.up)&&!(P.opn.any λe=>e.ah==i)
def qQ(c:ak)(E:aA)(i:Nat):Bool:=bF (λp=>!bG c.D i p||bA (E.part p) i) (c.D.nb+1)
def ss:nH:=⟨WR,WR,λ_=>0⟩
def oU(c:ak)(E:aA)(i:Nat):nH:=if qQ c E i then E.res i else ss
def mH(D:aH)(p:Nat)(l:List ay):Nat:=bK (dP D p l) l.length
def mJ(D:aH)(p:Nat)(l:List ay):Nat:=bK (λi=>!iO D p l i) l.length
def jv(D:aH)(a:Nat)(fs:Nat->Int)(p:Nat):Part:=⟨iJ D.nb D.fb fs a p,jc D.nb D.fb fs a p,100,iu D p 0,[],λ_=>[],[]⟩
def ie(D:aH)(a:Nat)(fs:Nat->Int):aA:=⟨jv D a fs,λ_=>ss⟩
def eH(fs:Nat->Int):Nat->Nat->Bool|0,_=>WR|n+1,k=>if fs (2*n)=k then WI else eH fs n k
def fw(fs:Nat->Int):Nat->Nat->Int|0,_=>0|n+1,k=>if fs (2*n)=k then fs (2*n+1)else fw fs n k
def gz(t:az)(s:(Nat->Bool)×(Nat->Int)):aV:=runM t t.nc ⟨WR,λ_=>0,[],s.1,s.2,0⟩
def ig(t:az)(s:(Nat->Bool)×(Nat->Int)):(Nat->Bool)×(Nat->Int):=if(gz t s).ab then s else((gz t s).hs,(gz t s).vl)
def cQ(D:aH)(s:(Nat->Bool)×(Nat->Int)):Nat->(Nat->Bool)×(Nat->Int)|0=>s|i+1=>ig (D.ts i) (cQ D s i)
end
section
open Go.RowKit Go.Maps
theorem wo{a:Type}(f:a->List WH)(n:Nat)(b:∀x,(f x).length=n):∀l:List a,(l.flatMap f).length=l.length*n|[]=>by simp|x::l=>by simp[Xi,b x,wo f n b l,Xx];omega
theorem qF{b:Type}(f:b->List WH)(n:Nat)(a:∀x,(f x).length=n):∀(l:List b)(k j:Nat)(x:b),l[k]?=WJ x->j<n->(l.flatMap f)[k*n+j]?=(f x)[j]?|[],k,j,x,h,_=>by simp at h|y::l,0,j,x,h,c=>by simp only[List.getElem?_cons_zero,W4]at h;subst h;rw[Xi,Nat.zero_mul,Xw,List.getElem?_append_left (by rw[a];exact c)]|y::l,k+1,j,x,h,c=>by simp only[List.getElem?_cons_succ]at h;rw[Xi,List.getElem?_append_right (by rw[a,Xx];omega),a,<-qF f n a l k j x h c];congr 1;rw[Xx];omega
def bu(x:WH×ay):List WH:=[.int .i64 x.2.ah,.bool x.2.read,x.1,.bool (x.2.aq 0),.bool (x.2.aq 1),.bool (x.2.aq 2),.bool (x.2.aq 3)]
def bH(x:WH×bl):List WH:=[.int .i64 x.2.fr,.int .i64 x.2.ah,x.1]
theorem nm(x:WH×ay):(bu x).length=7:=rfl
theorem Ar(x:WH×bl):(bH x).length=3:=rfl
def Own(z:Nat)(O:Nat->Nat)(b:Nat):Prop:=z<=O b/\O b<z+50
abbrev gy(z:Nat)(O:Nat->Nat)(b:Nat):Prop:=¬Own z O b
abbrev Ag(z:Nat)(O:Nat->Nat)(w w':WK):Prop:=ao (gy z O) w w'
theorem Ag.step{z:Nat}{O O':Nat->Nat}{w w' a:WK}(h:Ag z O w w')(d:Ag z O' w' a)(e:∀b,b<w.heap.size->O' b=O b):Ag z O w a:=⟨Xj h.size d.size,λb hs c=>(d.block b (by unfold gy Own at hs⊢;rw[e b c];exact hs) (Xc c h.size)).trans (h.block b hs c)⟩
def fM(z:Nat)(O:Nat->Nat)(w:WK)(v:WH)(l:List (Nat×Int)):Prop:=(∃a c,v=.slice a l.length c)/\∀w',Ag z O w w'->iq w' v l
theorem fM.rd{z:Nat}{O:Nat->Nat}{w:WK}{v:WH}{l:List (Nat×Int)}(h:fM z O w v l):iq w v l:=h.2 w (ao.refl _ _)
theorem fM.move{z:Nat}{O O':Nat->Nat}{w w':WK}{v:WH}{l:List (Nat×Int)}(h:fM z O w v l)(c:Ag z O w w')(d:∀b,b<w.heap.size->O' b=O b):fM z O' w' v l:=⟨h.1,λa e=>h.2 a (c.step e d)⟩
theorem fM.nil(z:Nat)(O:Nat->Nat)(w:WK):fM z O w (.slice WN 0 0) []:=⟨⟨WN,0,rfl⟩,λw' _=>O5 w' 2⟩
theorem fM.own{z:Nat}{O:Nat->Nat}{w:WK}{v:WH}{l:List (Nat×Int)}(h:w.ownsRow 0 81 2 v l.length (eY l))(j:∀b,v.ownBlock=WJ b->gy z O b):fM z O w v l:=by
 refine⟨jD h,λw' d=>xa (base:=0) (e:=81) ?_ (AP l)⟩;rcases h.2 with f|⟨g,cap,a,rfl,i,c,k⟩;·exact⟨h.1,.inl f⟩
 ·exact⟨h.1,.inr ⟨g,cap,a,rfl,i,by rw[d.block g (j g rfl) (WT.1 c).1];exact c,k⟩⟩
def n6(z:Nat)(O:Nat->Nat)(w:WK)(x:WH×ay):Prop:=fM z O w x.1 x.2.kept/\(x.2.read=WR->x.1=.slice WN 0 0)
theorem n6.move{z:Nat}{O O':Nat->Nat}{w w':WK}{x:WH×ay}(h:n6 z O w x)(c:Ag z O w w')(a:∀b,b<w.heap.size->O' b=O b):n6 z O' w' x:=⟨h.1.move c a,h.2⟩
def bT(z:Nat)(O:Nat->Nat)(w:WK)(c:Nat)(v:WH)(l:List ay):Prop:=∃es:List (WH×ay),es.map Prod.snd=l/\w.ownsRow 0 173 7 v l.length (es.flatMap bu)/\(∀x∈es,n6 z O w x)/\∀b,v.ownBlock=WJ b->O b=c
def eu(z:Nat)(O:Nat->Nat)(w:WK)(c:Nat)(v:WH)(l:List bl):Prop:=∃es:List (WH×bl),es.map Prod.snd=l/\w.ownsRow 0 195 3 v l.length (es.flatMap bH)/\(∀x∈es,fM z O w x.1 x.2.ps)/\∀b,v.ownBlock=WJ b->O b=c
theorem ml{w w':WK}{e:XF}{c n:Nat}{v:WH}{xs:List WH}(h:w.ownsRow 0 e c v n xs)(i:∀b,v.ownBlock=WJ b->w'.heap[b]?=w.heap[b]?):w'.ownsRow 0 e c v n xs:=by
 rcases h.2 with k|⟨g,cap,a,rfl,f,d,j⟩;·exact⟨h.1,.inl k⟩
 ·exact⟨h.1,.inr ⟨g,cap,a,rfl,f,by rw[i g rfl];exact d,j⟩⟩
theorem bT.move{z:Nat}{O O':Nat->Nat}{w w':WK}{c:Nat}{v:WH}{l:List ay}(h:bT z O w c v l)(g:Ag z O w w')(e:∀b,b<w.heap.size->O' b=O b)(k:∀b,b<w.heap.size->O b=c->w'.heap[b]?=w.heap[b]?):bT z O' w' c v l:=by obtain⟨es,j,d,i,f⟩:=h;exact⟨es,j,ml d (λb a=>k b (d.lt b a).2 (f b a)),λx m=>(i x m).move g e,λb a=>by rw[e b (d.lt b a).2];exact f b a⟩
theorem eu.move{z:Nat}{O O':Nat->Nat}{w w':WK}{c:Nat}{v:WH}{l:List bl}(h:eu z O w c v l)(g:Ag z O w w')(e:∀b,b<w.heap.size->O' b=O b)(k:∀b,b<w.heap.size->O b=c->w'.heap[b]?=w.heap[b]?):eu z O' w' c v l:=by obtain⟨es,j,d,i,f⟩:=h;exact⟨es,j,ml d (λb a=>k b (d.lt b a).2 (f b a)),λx m=>(i x m).move g e,λb a=>by rw[e b (d.lt b a).2];exact f b a⟩
theorem bT.nil(z:Nat)(O:Nat->Nat)(w:WK)(c:Nat):bT z O w c (.slice WN 0 0) []:=⟨[],rfl,Xf _ _ _ _,by simp,λb a=>by cases a⟩
theorem eu.nil(z:Nat)(O:Nat->Nat)(w:WK)(c:Nat):eu z O w c (.slice WN 0 0) []:=⟨[],rfl,Xf _ _ _ _,by simp,λb a=>by cases a⟩
theorem bT.slice{z:Nat}{O:Nat->Nat}{w:WK}{c:Nat}{v:WH}{l:List ay}(h:bT z O w c v l):∃a cap,v=.slice a l.length cap:=by obtain⟨es,d,b,_⟩:=h;exact jD b
theorem eu.slice{z:Nat}{O:Nat->Nat}{w:WK}{c:Nat}{v:WH}{l:List bl}(h:eu z O w c v l):∃a cap,v=.slice a l.length cap:=by obtain⟨es,d,b,_⟩:=h;exact jD b
def dg(z:Nat)(O:Nat->Nat)(w:WK)(e p s:Nat)(v:WH)(P:Part):Prop:=if s=0 then∃M,v=.map (WJ M)/\O M=z+p*10/\M<w.heap.size/\dk P.n w M P.hs P.vl else if s=1 then v=.pointer (WJ ⟨e,0,WN⟩)else if s=2 then v=.int .i64 (p:Nat)else if s=3 then v=.int .i64 (P.up:Nat)else if s=4 then bT z O w (z+p*10+4) v P.opn else if s=9 then eu z O w (z+p*10+9) v P.taken else eu z O w (z+p*10+s) v (P.aY (s-5))
theorem dg.move{z:Nat}{O O':Nat->Nat}{w w':WK}{e p s:Nat}{v:WH}{P:Part}(h:dg z O w e p s v P)(i:Ag z O w w')(k:∀b,b<w.heap.size->O' b=O b)(l:∀b,b<w.heap.size->O b=z+p*10+s->w'.heap[b]?=w.heap[b]?):dg z O' w' e p s v P:=by
 unfold dg at h⊢;split;·rename_i j;rw[if_pos j]at h;obtain⟨M,f,d,a,c⟩:=h;exact⟨M,f,by rw[k M a];exact d,Xc a i.size,c.block (l M a (by rw[d,j];rfl))⟩
 rename_i j;rw[if_neg j]at h;split;·rename_i f;rw[if_pos f]at h;exact h
 rename_i f;rw[if_neg f]at h;split;·rename_i d;rw[if_pos d]at h;exact h
 rename_i d;rw[if_neg d]at h;split;·rename_i a;rw[if_pos a]at h;exact h
 rename_i a;rw[if_neg a]at h;split;·rename_i c;rw[if_pos c]at h;exact h.move i k (λb n m=>l b n (by rw[m,c]))
 rename_i c;rw[if_neg c]at h;split;·rename_i g;rw[if_pos g]at h;exact h.move i k (λb n m=>l b n (by rw[m,g]))
 rename_i g;rw[if_neg g]at h;exact h.move i k l
def wY(s:Nat)(P Q:Part):Prop:=(s=0->P.n=Q.n/\P.hs=Q.hs/\P.vl=Q.vl)/\(s=3->P.up=Q.up)/\(s=4->P.opn=Q.opn)/\(s=9->P.taken=Q.taken)/\(5<=s->s<9->P.aY (s-5)=Q.aY (s-5))
theorem dg.congr{z:Nat}{O:Nat->Nat}{w:WK}{e p s:Nat}{v:WH}{P Q:Part}(h:dg z O w e p s v P)(hs:wY s P Q)(n:s<10):dg z O w e p s v Q:=by
 obtain⟨e0,e3,l,m,o⟩:=hs;unfold dg at h⊢;split;·rename_i i;rw[if_pos i]at h;obtain⟨a,b,c⟩:=e0 i;rw[<-a,<-b,<-c];exact h
 rename_i i;rw[if_neg i]at h;split;·rename_i j;rw[if_pos j]at h;exact h
 rename_i j;rw[if_neg j]at h;split;·rename_i k;rw[if_pos k]at h;exact h
 rename_i k;rw[if_neg k]at h;split;·rename_i d;rw[if_pos d]at h;rw[<-e3 d];exact h
 rename_i d;rw[if_neg d]at h;split;·rename_i g;rw[if_pos g]at h;rw[<-l g];exact h
 rename_i g;rw[if_neg g]at h;split;·rename_i f;rw[if_pos f]at h;rw[<-m f];exact h
 rename_i f;rw[if_neg f]at h;rw[<-o (by omega) (by omega)];exact h
def sC(r:nH)(j:Nat):WH:=if j=0 then .bool r.dn else if j=1 then .bool r.ab else .int .i64 (r.r (j-2))
structure aK(z:Nat)(O:Nat->Nat)(w:WK)(e:Nat)(c:ak)(vB vL:WH)(K R:Nat)(f:Nat->WH)(E:aA):Prop where
 k:∀w',Ag z O w w'->dB w' e c.D vB vL/\w'.cell? ⟨e,1,WN⟩=WJ (.int .i64 (c.W:Nat))/\w'.cell? ⟨e,2,WN⟩=WJ (.int .i64 (c.C:Nat))/\w'.cell? ⟨e,3,WN⟩=WJ (.int .i64 (c.K:Nat))/\w'.cell? ⟨e,5,WN⟩=WJ (.slice (WJ ⟨K,0,WN⟩) (c.D.nb+1) (c.D.nb+1))/\w'.cell? ⟨e,6,WN⟩=WJ (.slice (WJ ⟨R,0,WN⟩) c.D.nl c.D.nl)
 oK:O K=z+40
 oR:O R=z+41
 row:au w K 131 ((c.D.nb+1)*10) f
 part:∀p s,p<=c.D.nb->s<10->dg z O w e p s (f (p*10+s)) (E.part p)
 res:au w R 75 (c.D.nl*6) (λj=>sC (E.res (j/6)) (j%6))
theorem aK.known{z:Nat}{O:Nat->Nat}{w:WK}{e:Nat}{c:ak}{vB vL:WH}{K R:Nat}{f:Nat->WH}{E:aA}(h:aK z O w e c vB vL K R f E):dB w e c.D vB vL:=(h.k w (ao.refl _ _)).1
theorem aK.move{z:Nat}{O O':Nat->Nat}{w w':WK}{e:Nat}{c:ak}{vB vL:WH}{K R:Nat}{f:Nat->WH}{E:aA}(h:aK z O w e c vB vL K R f E)(g:∀b,b<w.heap.size->w'.heap[b]?=w.heap[b]?)(hs:w.heap.size<=w'.heap.size)(d:∀b,b<w.heap.size->O' b=O b):aK z O' w' e c vB vL K R f E:=by have a:Ag z O w w':=⟨hs,λb _ j=>g b j⟩;exact⟨λi m=>h.k i (a.step m d),by rw[d K h.row.lt];exact h.oK,by rw[d R h.res.lt];exact h.oR,h.row.block (g K h.row.lt),λp s l hs=>(h.part p s l hs).move a d (λb j _=>g b j),h.res.block (g R h.res.lt)⟩
theorem aK.below{z:Nat}{O:Nat->Nat}{w w':WK}{e:Nat}{c:ak}{vB vL:WH}{K R:Nat}{f:Nat->WH}{E:aA}(h:aK z O w e c vB vL K R f E)(d:WZ w.heap.size w w'):aK z O w' e c vB vL K R f E:=h.move (λb a=>d.block b a) d.size (λ_ _=>rfl)
theorem aK.put{z:Nat}{O O':Nat->Nat}{w w':WK}{e:Nat}{c:ak}{vB vL:WH}{K R:Nat}{f:Nat->WH}{E:aA}(h:aK z O w e c vB vL K R f E){p s:Nat}(I:p<=c.D.nb)(C:c.D.nb<=3)(B:s<10){v:WH}{P:Part}(x:w.heap.size<=w'.heap.size)(n:∀b,b<w.heap.size->O' b=O b)(r:∀b,b<w.heap.size->O b≠z+p*10+s->b≠K->w'.heap[b]?=w.heap[b]?)(l:au w' K 131 ((c.D.nb+1)*10) (λj=>if j=p*10+s then v else f j))(H:dg z O' w' e p s v P)(G:∀s',s'<10->s'≠s->wY s' (E.part p) P):aK z O' w' e c vB vL K R (λj=>if j=p*10+s then v else f j) {E with part:=upd E.part p P}/\Ag z O w w':=by
 have g:Ag z O w w':=⟨x,λb A i=>r b i (λt=>A ⟨by omega,by omega⟩) (λhk=>A (by rw[hk];exact⟨by rw[h.oK];omega,by rw[h.oK];omega⟩))⟩;refine⟨⟨λy F=>h.k y (g.step F n),by rw[n K h.row.lt];exact h.oK,by rw[n R h.res.lt];exact h.oR,l,λu s' m d=>?_,h.res.block (r R h.res.lt (by rw[h.oR];omega) (λhk=>by have a:=h.oK;have b:=h.oR;rw[hk]at b;omega))⟩,g⟩;by_cases o:u=p;·subst o;simp only[upd_same];by_cases q:s'=s;(·subst q;simp only[if_true];exact H);·rw[if_neg (by omega)];exact((h.part u s' m d).move g n (λb i t=>r b i (by omega) (λhk=>by have a:=h.oK;rw[hk]at t;omega))).congr (G s' d q) d
 ·simp only[bC _ _ o];rw[if_neg (by omega)];exact(h.part u s' m d).move g n (λb i t=>r b i (by omega) (λhk=>by have a:=h.oK;rw[hk]at t;omega))
theorem uL{P:Program}{ops:Array Oper}{o:Oper}{a:Act}{w:WK}{K:Act->WK->Prop}{Q:Exit->Act->WK->Prop}{E:Prop}(h:o.guard=WN)(s x:Operand)(t:XF)(c:o.op=Op.call {callee:=Callee.builtin Builtin.append,args:=#[s,x],argTypes:=#[t,t]})(e f:WH)(hs:a.eval s=e)(j:a.eval x=f)(d:WH)(w':WK)(b:∀ty,(W6 #[t,t] ty #[e,f]).run P w=.ok d w')(i:K (a.put o.dst d) w'):if Region.wanted o (yielded ops a.tmps)=WI then Oper.wp P o a w K Q else E:=by
 have g:Region.wanted o (yielded ops a.tmps)=WI:=by simp[Region.wanted,h]
 rw[if_pos g];unfold Oper.wp;simp[execOp,c,resolve,invoke,builtin,hs,j,b,Result.andThen];exact i
theorem zy{P:Program}(w:WK)(t e:XF)(i:TypeInfo)(z:WH)(size bytes:Nat)(A:P.underlying t=WJ (.slice e))(hi:P.info? e=WJ i)(I:i.zero=WJ z)(l:i.size=size)(x:i.bytes=bytes)(D:z.cells.size=size)(F:0<size)(v:WH)(n:Nat)(xs:List WH)(k:w.ownsRow 0 e size v n xs)(a:XJ)(m c:Nat)(b:List WH)(r:b.length=m*size)(d:∀j u,b[j]?=WJ u->w.cell? (a.add j)=WJ u)(J:∀u∈b,u.oneCell'=WI)(R:0<m)(s:n+m<=maxLen)(f:(n+m)*bytes<=140737488355328):∃h w',(∀ty,(W6 #[t,t] ty #[v,.slice (WJ a) m c]).run P w=.ok h w')/\w'.ownsRow 0 e size h (n+m) (xs++b)/\w.grownBy w' v.ownBlock/\(h.ownBlock=v.ownBlock\/h.ownBlock=WJ w.heap.size):=by
 have key:∀ty,∃h w',(W6 #[t,t] ty #[v,.slice (WJ a) m c]).run P w=.ok h w'/\w'.ownsRow 0 e size h (n+m) (xs++b)/\w.grownBy w' v.ownBlock:=λty=>by obtain⟨h,w',r1,r2,r3,_⟩:=run_append_own (P:=P) w 0 t ty e i z size bytes A hi I l x D F v n xs k a m c b r d J s f (Xo _);exact⟨h,w',r1,r2,r3⟩
 have B:n+m<=9223372036854775807:=by simp only[maxLen]at s;omega
 subst l;subst x;have one:∃h w',(∀ty,(W6 #[t,t] ty #[v,.slice (WJ a) m c]).run P w=.ok h w')/\(h.ownBlock=v.ownBlock\/h.ownBlock=WJ w.heap.size):=by rcases k.2 with⟨rfl,rfl⟩|⟨g,cap,y,rfl,O,L,M,N,G,E⟩;(·exact⟨_,_,λty=>run_append_nil (P:=P) w t ty e i z A hi I a m c b r d (by omega) (by omega) (by have C:=f;simp only[Xw]at C;omega),.inr rfl⟩);·by_cases o:n+m<=cap;(·(have q:n*i.size+b.length<=y.size:=by rw[r,G,<-Nat.add_mul];exact Nat.mul_le_mul_right _ o);exact⟨_,_,λty=>run_append_room (P:=P) w t ty e i A hi g n cap y L a m c b r d J o q,.inl rfl⟩);·have p:∀j u,xs[j]?=WJ u->w.cell? ((⟨g,0,WN⟩:XJ).add j)=WJ u:=k.cells (g:=g) rfl;exact⟨_,_,λty=>run_append_grow (P:=P) w t ty e i z A hi I ⟨g,0,WN⟩ n cap xs k.1 p a m c b r d (by omega) (by omega) (growslice_fits (by omega) f),.inr rfl⟩
 obtain⟨h,w',K,C⟩:=one;refine⟨h,w',K,?_⟩;obtain⟨Q,w2,r1,r2,r3⟩:=key 0;rw[K 0]at r1;injection r1 with r1 H;subst r1;subst H;exact⟨r2,r3,C⟩
theorem Tryz.AS:(Tryz.prog.info? 173).map (λi=>(i.zero,i.size,i.bytes))=WJ (WJ (.agg #[.int .i64 0,.bool WR,.slice WN 0 0,.bool WR,.bool WR,.bool WR,.bool WR]),7,48):=by kernel_rfl
theorem Tryz.BJ:(Tryz.prog.info? 195).map (λi=>(i.zero,i.size,i.bytes))=WJ (WJ (.agg #[.int .i64 0,.int .i64 0,.slice WN 0 0]),3,40):=by kernel_rfl
end
section
abbrev Cells:=(Nat->Bool)×(Nat->Int)
def aN(s:Cells)(k:Nat):Option Int:=if s.1 k then WJ (s.2 k)else WN
theorem sO(s:Cells)(k:Nat)(x:Int)(j:Nat):aN (upd s.1 k WI,upd s.2 k x) j=if j=k then WJ x else aN s j:=by by_cases h:j=k<;>simp[aN,upd,h]
theorem uM(s:Cells)(k j:Nat):aN (upd s.1 k WR,s.2) j=if j=k then WN else aN s j:=by by_cases h:j=k<;>simp[aN,upd,h]
theorem Kj(hs:Nat->Bool)(vl:Nat->Int)(k:Nat):valOf hs vl k=(aN (hs,vl) k).getD 0:=by cases h:hs k<;>simp[valOf,aN,h]
theorem JY(hs:Nat->Bool)(vl:Nat->Int)(k:Nat):hs k=(aN (hs,vl) k).isSome:=by cases h:hs k<;>simp[aN,h]
theorem Gb{s s':Cells}{k:Nat}(h:aN s k=aN s' k):s.1 k=s'.1 k/\(s.1 k=WI->s.2 k=s'.2 k):=by unfold aN at h;cases a:s.1 k<;>cases b:s'.1 k<;>simp_all
theorem Gw{hs a:Nat->Bool}{vl b:Nat->Int}{lo:Nat}:∀{n:Nat},(∀j,j<n->aN (hs,vl) (lo+j)=aN (a,b) (lo+j))->dG hs vl lo n=dG a b lo n|0,_=>rfl|n+1,h=>by have f:=Gw (n:=n) (λj g=>h j (by omega));obtain⟨d,c⟩:=Gb (h n (by omega));simp only at d c;simp only[dG,f,<-d];split;(·rename_i e;rw[c e]);·rfl
theorem CS{hs a:Nat->Bool}{vl b:Nat->Int}{lo:Nat}:∀{n:Nat},(∀j,j<n->aN (hs,vl) (lo+j)=aN (a,b) (lo+j))->fg hs lo n=fg a lo n|0,_=>rfl|n+1,h=>by have c:=CS (n:=n) (λj e=>h j (by omega));obtain⟨d,f⟩:=Gb (h n (by omega));simp only at d;simp only[fg]at c⊢;simp only[bK,c,d]
structure n9(t:az)(m m':aV):Prop where
 ab:m.ab=m'.ab
 r:m.r=m'.r
 ch:m.ch=m'.ch
 nx:m.nx=m'.nx
 c:∀k:Nat,cg t k=WI->aN (m.hs,m.vl) k=aN (m'.hs,m'.vl) k
theorem Bm{t:az}{k:Int}(h:hasB t.nr t.r k=WI\/hasB t.nw t.wr k=WI):cg t k=WI:=by rcases h with h|h<;>simp[cg,h]
theorem rM{t:az}(h:cY t=WI):fE t.nr t.r=WI/\fE t.nw t.wr=WI/\jN t.ng t.g=WI/\t.nc<=16/\bF (ju t) t.nc=WI:=by simp only[cY,cD,WG,decide_eq_true_eq]at h;exact⟨h.1.1.1,h.1.1.2,h.1.2,h.2.1,h.2.2⟩
theorem xy{n lo hi:Int}(h:aI n lo hi=WI)(a:0<=lo):∃k:Nat,n=k/\lo<=k/\(k:Int)<=hi:=by simp only[aI,WG,decide_eq_true_eq]at h;exact⟨n.toNat,by omega,by omega,by omega⟩
theorem sX{n:Nat}{f:Nat->Int}{x:Int}(h:hasB n f x=WI)(hk:fE n f=WI):∃k:Nat,x=k/\k<100:=by obtain⟨i,hi,a⟩:=lf h;simp only[fE,WG]at hk;have:=gi hk.2 hi;rw[beq_iff_eq]at a;rw[a]at this;obtain⟨k,rfl,_,b⟩:=xy this (WQ 0);exact⟨k,rfl,by omega⟩
theorem GM{t:az}(h:cY t=WI){j:Nat}(b:j<t.ng):∃lo hi:Nat,t.g (2*j)=lo/\t.g (2*j+1)=hi/\lo<=hi/\hi<=99:=by have:=(rM h).2.2.1;simp only[jN,WG]at this;have:=gi this.2 b;simp only[gY,WG,decide_eq_true_eq]at this;obtain⟨⟨a,c⟩,f⟩:=this;obtain⟨lo,e1,d,e⟩:=xy a (WQ 0);obtain⟨hi,e2,b1,b2⟩:=xy c (WQ 0);exact⟨lo,hi,e1,e2,by omega,by omega⟩
theorem DH{t:az}(h:cY t=WI){k:Nat}(hk:cg t k=WI):k<100:=by
 obtain⟨d,b,f,_,_⟩:=rM h;simp only[cg,Xa]at hk;rcases hk with(hk|hk)|hk;·obtain⟨j,e,a⟩:=sX hk d;omega
 ·obtain⟨j,a,c⟩:=lf hk;obtain⟨lo,hi,e1,e2,_,_⟩:=GM h a;simp only[lT,e1,e2,WG,decide_eq_true_eq]at c;omega
 ·obtain⟨j,e,a⟩:=sX hk b;omega
theorem DI{t:az}(h:cY t=WI){X:Int}(a:aI X 0 (t.ng-1)=WI){j:Nat}(b:j<lu t X+1-ji t X):cg t ((ji t X+j:Nat):Int)=WI:=by obtain⟨x,rfl,_,e⟩:=xy a (WQ 0);obtain⟨lo,hi,e1,e2,d,c⟩:=GM h (j:=x) (by omega);simp only[ji,lu,W5,e1,e2]at b⊢;have:bO (lT t ((lo+j:Nat):Int)) t.ng=WI:=fQ (k:=x) (by omega) (by simp only[lT,e1,e2,WG,decide_eq_true_eq];omega);unfold cg;rw[this];simp
theorem n9.step{t:az}(T:cY t=WI){m m':aV}(h:n9 t m m')(f:m.nx<t.nc):n9 t (dL t m) (dL t m'):=by
 obtain⟨k1,k2,k3,k4,k5⟩:=rM T;have d:=gi k5 f;unfold ju at d;obtain⟨e1,e2,e3,i,e5⟩:=h;unfold dL;rw[<-i];generalize t.c (4*m.nx)=K at*;generalize t.c (4*m.nx+1)=A at*;generalize t.c (4*m.nx+2)=X at*;generalize t.c (4*m.nx+3)=C at*;unfold eP at d;unfold jm;by_cases c1:K=1;·simp only[if_pos c1];exact⟨e1,by simp only[e2],e3,rfl,e5⟩
 simp only[if_neg c1]at d⊢;by_cases c2:K=2;·simp only[if_pos c2]at d⊢;simp only[WG,Xa]at d;(have hk:∃k:Nat,X=k/\k<100:=by rcases d.2 with h|h;(·exact sX h k1);·exact sX h k2);obtain⟨k,rfl,_⟩:=hk;refine⟨e1,?_,e3,rfl,e5⟩;simp only[Kj,e2,W5,e5 k (Bm d.2)]
 simp only[if_neg c2]at d⊢;by_cases c3:K=3;·simp only[if_pos c3]at d⊢;refine⟨e1,e2,by simp only[e3,e2],rfl,λk hk=>?_⟩;have a:=sO (m.hs,m.vl) A.toNat (m.r X.toNat) k;have b:=sO (m'.hs,m'.vl) A.toNat (m'.r X.toNat) k;simp only at a b⊢;rw[a,b,e2,e5 k hk]
 simp only[if_neg c3]at d⊢;by_cases c4:K=4;·simp only[if_pos c4]at d⊢;refine⟨e1,e2,by simp only[e3],rfl,λk hk=>?_⟩;have a:=uM (m.hs,m.vl) A.toNat k;have b:=uM (m'.hs,m'.vl) A.toNat k;simp only at a b⊢;rw[a,b,e5 k hk]
 simp only[if_neg c4]at d⊢;by_cases c5:K=5;·simp only[if_pos c5]at⊢;simp only[if_pos (Or.inl c5:K=5\/K=6),WG]at d;refine⟨e1,?_,e3,rfl,e5⟩;simp only[e2];rw[Gw (λj e=>e5 _ (DI T d.2 e))]
 simp only[if_neg c5]at⊢;by_cases c6:K=6;·simp only[if_pos c6]at⊢;simp only[if_pos (Or.inr c6:K=5\/K=6),WG]at d;refine⟨e1,?_,e3,rfl,e5⟩;simp only[e2];rw[CS (λj e=>e5 _ (DI T d.2 e))]
 simp only[if_neg c6]at⊢;by_cases c7:K=7;·simp only[if_pos c7];exact⟨e1,by simp only[e2],e3,rfl,e5⟩
 simp only[if_neg c7]at⊢;by_cases g:K=8;·simp only[if_pos g];exact⟨e1,by simp only[e2],e3,rfl,e5⟩
 simp only[if_neg g]at⊢;by_cases c9:K=9;·simp only[if_pos c9];exact⟨e1,e2,e3,by simp only[e2],e5⟩
 simp only[if_neg c9];exact⟨rfl,e2,rfl,rfl,e5⟩
theorem n9.run{t:az}(T:cY t=WI):∀(f:Nat){m m':aV},n9 t m m'->n9 t (runM t f m) (runM t f m')|0,_,_,h=>h|f+1,m,m',h=>by unfold runM;by_cases a:m.nx<t.nc;(·rw[if_pos a,if_pos (by rw[<-h.nx];exact a)];exact n9.run T f (h.step T a));·rw[if_neg a,if_neg (by rw[<-h.nx];exact a)];exact h
def nS(k:Nat)(o:Option Int)(x:fy):Option Int:=if x.key=k then(if x.del then WN else WJ x.val)else o
structure oA(t:az)(s:Cells)(m:aV):Prop where
 c:∀k,m.ab=WR->aN (m.hs,m.vl) k=m.ch.foldl (nS k) (aN s k)
 w:∀x∈m.ch,hasB t.nw t.wr (x.key:Int)=WI
 a:m.ab=WI->m.ch=[]/\t.nc<=m.nx
theorem oA.step{t:az}(T:cY t=WI){s:Cells}{m:aV}(h:oA t s m)(l:m.nx<t.nc):oA t s (dL t m):=by
 obtain⟨k1,k2,k3,k4,k5⟩:=rM T;have d:=gi k5 l;unfold ju at d;obtain⟨i,f,o⟩:=h;have b:m.ab=WR:=by cases e:m.ab with|false=>rfl|true=>have:=(o e).2;omega
 unfold dL;generalize t.c (4*m.nx)=K at*;generalize t.c (4*m.nx+1)=A at*;generalize t.c (4*m.nx+2)=X at*;generalize t.c (4*m.nx+3)=C at*;unfold eP at d;unfold jm;by_cases c1:K=1;·simp only[if_pos c1];exact⟨i,f,λe=>by simp only at e;rw[b]at e;cases e⟩
 simp only[if_neg c1]at d⊢;by_cases c2:K=2;·simp only[if_pos c2];exact⟨i,f,λe=>by simp only at e;rw[b]at e;cases e⟩
 simp only[if_neg c2]at d⊢;by_cases c3:K=3;·simp only[if_pos c3,WG]at d⊢;obtain⟨k,rfl,_⟩:=sX d.1 k2;refine⟨λj _=>?_,λx g=>?_,λe=>by simp only at e;rw[b]at e;cases e⟩;(·have a:=sO (m.hs,m.vl) (k:Int).toNat (m.r X.toNat) j;simp only[W5]at a⊢;rw[a,i j b,Xh];simp only[Xl,nS];by_cases e:j=k;(·simp[e]);·simp[e,Ne.symm e]);·simp only[W3,WX]at g;rcases g with g|rfl;(·exact f x g);·simpa using d.1
 simp only[if_neg c3]at d⊢;by_cases c4:K=4;·simp only[if_pos c4]at d⊢;obtain⟨k,rfl,_⟩:=sX d k2;refine⟨λj _=>?_,λx g=>?_,λe=>by simp only at e;rw[b]at e;cases e⟩;(·have a:=uM (m.hs,m.vl) (k:Int).toNat j;simp only[W5]at a⊢;rw[a,i j b,Xh];simp only[Xl,nS];by_cases e:j=k;(·simp[e]);·simp[e,Ne.symm e]);·simp only[W3,WX]at g;rcases g with g|rfl;(·exact f x g);·simpa using d
 simp only[if_neg c4]at d⊢;by_cases c5:K=5;·simp only[if_pos c5];exact⟨i,f,λe=>by simp only at e;rw[b]at e;cases e⟩
 simp only[if_neg c5]at⊢;by_cases c6:K=6;·simp only[if_pos c6];exact⟨i,f,λe=>by simp only at e;rw[b]at e;cases e⟩
 simp only[if_neg c6]at⊢;by_cases c7:K=7;·simp only[if_pos c7];exact⟨i,f,λe=>by simp only at e;rw[b]at e;cases e⟩
 simp only[if_neg c7]at⊢;by_cases n:K=8;·simp only[if_pos n];exact⟨i,f,λe=>by simp only at e;rw[b]at e;cases e⟩
 simp only[if_neg n]at⊢;by_cases c9:K=9;·simp only[if_pos c9];exact⟨i,f,λe=>by simp only at e;rw[b]at e;cases e⟩
 simp only[if_neg c9];exact⟨λk e=>by simp at e,by simp,λ_=>⟨rfl,WO _⟩⟩
theorem oA.run{t:az}(T:cY t=WI){s:Cells}:∀(f:Nat){m:aV},oA t s m->oA t s (runM t f m)|0,_,h=>h|f+1,m,h=>by unfold runM;by_cases a:m.nx<t.nc;(·rw[if_pos a];exact oA.run T f (h.step T a));·rw[if_neg a];exact h
theorem yr{t:az}(T:cY t=WI)(s:Cells):oA t s (gz t s):=oA.run T _ ⟨λk _=>rfl,by simp,λe=>by cases e⟩
theorem Ed{t:az}(T:cY t=WI)(s:Cells)(k:Nat):aN (ig t s) k=(gz t s).ch.foldl (nS k) (aN s k):=by
 have h:=yr T s;unfold ig;split;·rename_i e;rw[(h.a e).1];rfl
 ·rename_i e;exact h.c k (by simpa using e)
theorem xO{k:Nat}:∀(l:List fy)(o:Option Int),(∀x∈l,x.key≠k)->l.foldl (nS k) o=o|[],_,_=>rfl|x::l,o,h=>by simp only[Xl];rw[show nS k o x=o from if_neg (h x (by simp))];exact xO l o (λy a=>h y (by simp[a]))
theorem P6{t:az}(T:cY t=WI)(s:Cells){k:Nat}(hk:hasB t.nw t.wr (k:Int)=WR):aN (ig t s) k=aN s k:=by rw[Ed T];refine xO _ _ (λx a e=>?_);have:=(yr T s).w x a;rw[e,hk]at this;cases this
theorem zn(D:aH)(p k:Nat):∀(l:List fy)(s:Cells),aN (kS D p s l) k=if fU D k=p then l.foldl (nS k) (aN s k)else aN s k|[],s=>by simp[kS]|x::l,s=>by have b:=zn D p k l (qy D p s x);simp only[kS,Xl]at b⊢;rw[b];(have one:aN (qy D p s x) k=if fU D k=p then nS k (aN s k) x else aN s k:=by unfold qy nS;by_cases e:x.key=k;(·subst e;by_cases h:fU D x.key=p;(·simp only[if_pos h];split;(·rw[uM];simp);·rw[sO];simp);·simp only[if_neg h]);·have a:¬k=x.key:=λh=>e h.symm;(have c:aN (if fU D x.key=p then(if x.del then(upd s.1 x.key WR,s.2)else(upd s.1 x.key WI,upd s.2 x.key x.val))else s) k=aN s k:=by split;(·split;(·rw[uM,if_neg a]);·rw[sO,if_neg a]);·rfl);rw[c];simp[e]);rw[one];split;(·simp);·simp
theorem OV{f:Nat->Option Int}{k:Nat}(l:List (Nat×Int))(d:∀x∈l,f x.1=WJ x.2)(b:∀v,f k=WJ v->(k,v)∈l):aN (pF l) k=f k:=by
 have a:∀(l:List (Nat×Int))(s:Cells),(∀x∈l,f x.1=WJ x.2)->aN (l.foldl (λs p=>(upd s.1 p.1 WI,upd s.2 p.1 p.2)) s) k=if l.any (λx=>x.1==k)then f k else aN s k:=by intro l;induction l with|nil=>intro s _;simp|cons x l c=>intro s h;simp only[Xl];rw[c _ (λy g=>h y (by simp[g])),sO];by_cases e:k=x.1;(·subst e;simp[h x (by simp)]);·(have:(x.1==k)=WR:=by simpa using Ne.symm e);simp only[Xt,this,Bool.false_or,if_neg e]
 have:=a l (λ_=>WR,λ_=>0) d;rw[show pF l=l.foldl (λs p=>(upd s.1 p.1 WI,upd s.2 p.1 p.2)) (λ_=>WR,λ_=>0)from rfl,this];cases e:f k with|none=>split<;>rfl|some v=>rw[if_pos];rw[List.any_eq_true];exact⟨(k,v),b v e,by simp⟩
theorem VI{t:az}(T:cY t=WI)(s:Cells)(l:List (Nat×Int))(c:∀x∈l,aN s x.1=WJ x.2)(a:∀k v,cg t (k:Nat)=WI->aN s k=WJ v->(k,v)∈l):n9 t (dv t l) (gz t s):=n9.run T _ ⟨rfl,rfl,rfl,rfl,λk hk=>OV (f:=aN s) l c (λv b=>a k v hk b)⟩
theorem GG(hs:Nat->Bool)(vl:Nat->Int)(k:Nat)(v:Int):∀n,(k,v)∈gG hs vl n↔k<n/\aN (hs,vl) k=WJ v|0=>by simp[gG]|n+1=>by simp only[gG,W3,GG hs vl k v n];cases e:hs n with|false=>simp only[aN];constructor;(·rintro(h|h);(·exact⟨by omega,h.2⟩);·simp at h);·rintro⟨b,a⟩;by_cases hk:k=n;(·subst hk;simp[e]at a);·exact .inl ⟨by omega,a⟩|true=>simp only[aN];constructor;(·rintro(h|h);(·exact⟨by omega,h.2⟩);·simp at h;obtain⟨rfl,rfl⟩:=h;exact⟨by omega,by simp[e]⟩);·rintro⟨b,a⟩;by_cases hk:k=n;(·subst hk;simp[e]at a;exact .inr (by simp[a]));·exact .inl ⟨by omega,a⟩
theorem Hl(t:az)(hs:Nat->Bool)(vl:Nat->Int)(k:Nat)(v:Int):(k,v)∈oh t hs vl↔k<100/\aN (hs,vl) k=WJ v/\cg t k=WI:=by simp only[oh,List.mem_filter,GG,and_assoc]
theorem AN(hs:Nat->Bool)(vl:Nat->Int):∀n,(gG hs vl n).length<=n|0=>WO _|n+1=>by have:=AN hs vl n;simp only[gG,W0];split<;>simp<;>omega
theorem QW(t:az)(hs:Nat->Bool)(vl:Nat->Int):(oh t hs vl).length<=100:=Xj (List.length_filter_le _ _) (AN _ _ _)
def wK(D:aH)(s0:Cells)(i q:Nat)(l:List (Nat×Int)):Prop:=∀k v,(k,v)∈l↔(cg (D.ts i) (k:Nat)=WI/\fU D k=q/\aN (cQ D s0 i) k=WJ v)
def lJ(D:aH)(i k:Nat):Bool:=hasB (D.ts i).nw (D.ts i).wr (k:Int)
structure fc(c:ak)(s0:Cells)(p:Nat)(P:Part):Prop where
 na:(P.opn.map (·.ah)).Pairwise (·<·)
 low:∀e∈P.opn,e.ah<P.up
 tk:∀e∈P.opn,bG c.D e.ah p=WI
 fX:P.up<=c.D.nl
 sU:P.up<c.D.nl->bG c.D P.up p=WI
 win:P.opn.length<=c.W
 mh:∀q,(P.aY q).length<=c.C
 cnt:P.n+16*P.opn.length<=100+16*P.up
 nv:∀q,∀x∈P.aY q,x.fr=q/\x.ah<c.D.nl/\wK c.D s0 x.ah q x.ps
 tok:∀x∈P.taken,x.ah<c.D.nl/\wK c.D s0 x.ah x.fr x.ps
 pk:∀e∈P.opn,e.read=WI->wK c.D s0 e.ah p e.kept
 oH:∀e∈P.opn,e.read=WR->e.kept=[]
 gr:∀i,bG c.D i p=WI->(bA P i=WI\/∃e∈P.opn,e.ah=i/\e.read=WI)->∀j,j<i->iU c.D j i p=WI->bA P j=WI
 dT:∀k j,fU c.D k=p->j<=c.D.nl->(∀i,i<c.D.nl->lJ c.D i k=WI->(i<j↔bA P i=WI))->aN (P.hs,P.vl) k=aN (cQ c.D s0 j) k
 own:∀k v,aN (P.hs,P.vl) k=WJ v->k<100/\fU c.D k=p
structure cA(c:ak):Prop where
 G:Good c.D
 W:1<=c.W/\c.W<=8
 C:1<=c.C/\c.C<=8
 K:1<=c.K/\c.K<=4
theorem cA.ah{c:ak}(H:cA c){i:Nat}(h:i<c.D.nl):cY (c.D.ts i)=WI:=gi H.G.ah h
theorem uw{c:ak}(H:cA c){i k:Nat}(hi:i<c.D.nl)(h:cg (c.D.ts i) (k:Nat)=WI):bG c.D i (fU c.D k:Nat)=WI:=by rw[<-H.G.Sb hi];have:bO (λa=>cg (c.D.ts i) a&&((ck c.D.nb c.D.fb a:Int)==((fU c.D k:Nat):Int))) 100=WI:=fQ (k:=k) (DH (H.ah hi) h) (by simp[h,fU]);simp only[xZ,this,Bool.true_or]
theorem qJ{D:aH}{i k:Nat}(h:lJ D i k=WI):cg (D.ts i) (k:Nat)=WI:=Bm (.inr h)
theorem Cq{D:aH}{a b p k:Nat}(d:lJ D a k=WI)(f:fU D k=p)(e:cg (D.ts b) (k:Nat)=WI):rW D a b p=WI:=by obtain⟨i,hi,c⟩:=lf d;rw[beq_iff_eq]at c;refine fQ (k:=i) hi ?_;rw[c];simp only[e,Bool.and_true,beq_iff_eq];exact f
theorem yz{D:aH}{a b p k:Nat}(c:lJ D a k=WI)(e:fU D k=p)(d:cg (D.ts b) (k:Nat)=WI):iU D a b p=WI:=by simp[iU,Cq c e d]
theorem Vh{D:aH}{a b p k:Nat}(c:lJ D b k=WI)(e:fU D k=p)(d:cg (D.ts a) (k:Nat)=WI):iU D a b p=WI:=by simp[iU,Cq c e d]
theorem rf(p:Nat->Bool):∀(m i:Nat),i<=iw p m i/\iw p m i<=i+m/\(∀j,i<=j->j<iw p m i->p j=WR)/\(iw p m i<i+m->p (iw p m i)=WI)|0,i=>⟨WO _,WO _,λj b a=>by simp only[iw]at a;omega,λh=>by simp only[iw]at h;omega⟩|m+1,i=>by unfold iw;by_cases e:p i=WI;(·rw[if_pos e];exact⟨WO _,by omega,λj b a=>by omega,λ_=>e⟩);·rw[if_neg e];obtain⟨b,a,f,g⟩:=rf p m (i+1);refine⟨by omega,by omega,λj k d=>?_,λh=>g (by omega)⟩;by_cases c:j=i;(·subst c;simpa using e);·exact f j (by omega) d
theorem su(D:aH)(p i:Nat)(hi:i<=D.nl):i<=iu D p i/\iu D p i<=D.nl/\(∀j,i<=j->j<iu D p i->bG D j p=WR)/\(iu D p i<D.nl->bG D (iu D p i) p=WI):=by obtain⟨a,d,b,c⟩:=rf (λi=>bG D i p) (D.nl-i) i;exact⟨a,by unfold iu;omega,b,λh=>c (by unfold iu at h;omega)⟩
def fj(l:List ay)(i:Nat):Bool:=l.any λe=>e.ah==i
theorem pC{l:List ay}{i:Nat}:fj l i=WI↔∃e∈l,e.ah=i:=by simp[fj]
theorem NT{l m:List ay}(h:l.map (·.ah)=m.map (·.ah))(i:Nat):fj l i=fj m i:=by
 have:∀l:List ay,fj l i=(l.map (·.ah)).any (·==i):=λl=>by simp[fj,List.any_map,Function.comp_def]
 rw[this,this,h]
theorem iZ{P:Part}{i:Nat}:bA P i=WI↔i<P.up/\fj P.opn i=WR:=by simp only[bA,WG,decide_eq_true_eq,Xy,fj]
theorem rz{l:List ay}{i:Nat}(h:∀e∈l,e.ah≠i):fj l i=WR:=by cases e:fj l i with|false=>rfl|true=>obtain⟨x,a,hi⟩:=pC.1 e;exact absurd hi (h x a)
theorem yb(l:List ay)(i:Nat)(f:ay->ay)(a:∀e,(f e).ah=e.ah):(l.modify i f).map (·.ah)=l.map (·.ah):=by apply List.ext_getElem?;intro j;simp only[List.getElem?_map,Xp];cases l[j]? with|none=>rfl|some e=>simp only[XB,Xz];split<;>simp[a]
theorem mem_modify{l:List ay}{i:Nat}{f:ay->ay}{e:ay}(h:e∈l.modify i f):(e∈l)\/(∃e0,l[i]?=WJ e0/\e=f e0):=by obtain⟨j,a⟩:=Xq h;rw[Xp]at a;cases b:l[j]? with|none=>rw[b]at a;simp at a|some x=>rw[b]at a;simp only[XB,Xz]at a;by_cases e:i=j;(·subst e;simp only[if_true,W4]at a;exact .inr ⟨x,b,a.symm⟩);·simp only[if_neg e,W4]at a;exact .inl (a▸W8 b)
theorem wm(P:Part)(l:List ay)(h:l.map (·.ah)=P.opn.map (·.ah))(i:Nat):bA {P with opn:=l} i=bA P i:=by rw[Xm,iZ,iZ];simp only[NT h]
theorem fc.admit{c:ak}(H:cA c){s0:Cells}{p:Nat}{P w:Part}(h:fc c s0 p P)(e:gI c p P=WJ w):fc c s0 p w:=by
 unfold gI at e;split at e;case isFalse=>cases e
 rename_i z;obtain⟨m,F⟩:=z;injection e with e;subst e;obtain⟨n1,y,A,E⟩:=su c.D p (P.up+1) m;have dn:∀i,bG c.D i p=WI->bA {P with opn:=P.opn++[jX P.up],up:=iu c.D p (P.up+1)} i=bA P i:=by intro i hi;rw[Xm,iZ,iZ];simp only[fj,XC,Xt,XH,Xs,Xr,jX];constructor;(·rintro⟨x,r,B⟩;refine⟨?_,r⟩;(have:P.up≠i:=by simpa using B);rcases Xk i (P.up+1)with v|v;(·omega);·rw[A i v x]at hi;cases hi);·rintro⟨x,r⟩;exact⟨by omega,r,by(have:P.up≠i:=by omega);simpa using this⟩
 have mem:∀{e:ay},e∈P.opn++[jX P.up]->e∈P.opn\/e=jX P.up:=λd=>by simpa using d
 refine⟨?_,?_,?_,y,E,?_,h.mh,?_,h.nv,h.tok,?_,?_,?_,?_,h.own⟩;·simp only[List.map_append,List.map_cons,List.map_nil];rw[List.pairwise_append];refine⟨h.na,by simp,λa C b u=>?_⟩;simp only[WX]at u;obtain⟨e,d,rfl⟩:=List.mem_map.1 C;rw[u];exact h.low e d
 ·intro e d;show e.ah<iu c.D p (P.up+1);rcases mem d with d|rfl;(·have:=h.low e d;omega);·show P.up<_;omega
 ·intro e d;rcases mem d with d|rfl;(·exact h.tk e d);·exact h.sU m
 ·simp only[W0,Xd,Xn];have:=h.win;omega
 ·simp only[W0,Xd,Xn];have:=h.cnt;omega
 ·intro e d q;rcases mem d with d|rfl;(·exact h.pk e d q);·cases q
 ·intro e d q;rcases mem d with d|rfl;(·exact h.oH e d q);·rfl
 ·intro i hi hd j o n;(have f:i<P.up+1->bA P j=WI->bA {P with opn:=P.opn++[jX P.up],up:=iu c.D p (P.up+1)} j=WI:=by intro _ hd;obtain⟨a,b⟩:=iZ.1 hd;rw[iZ];refine⟨by show j<iu c.D p (P.up+1);omega,?_⟩;(have:P.up≠j:=by omega);simp only[fj,XC,Xt,XH,Xs,Xr,jX];exact⟨b,by simpa using this⟩);rcases hd with hd|⟨e,d,t,l⟩;(·rw[dn i hi]at hd;have:=(iZ.1 hd).1;exact f (by omega) (h.gr i hi (.inl hd) j o n));·rcases mem d with d|rfl;(·have:=h.low e d;exact f (by omega) (h.gr i hi (.inr ⟨e,d,t,l⟩) j o n));·cases l
 ·intro k j hk o s;refine h.dT k j hk o (λi hi g=>?_);have:=uw H hi (qJ g);rw[hk]at this;rw[s i hi g,dn i this]
theorem Av{c:ak}(H:cA c)(s0:Cells)(k:Nat):∀(d a:Nat),a+d<=c.D.nl->(∀i,a<=i->i<a+d->lJ c.D i k=WR)->aN (cQ c.D s0 (a+d)) k=aN (cQ c.D s0 a) k|0,_,_,_=>rfl|d+1,a,h,b=>by have f:=Av H s0 k d a (by omega) (λi e g=>b i e (by omega));rw[show a+(d+1)=(a+d)+1 from rfl,cQ,P6 (H.ah (by omega)) _ (b (a+d) (by omega) (by omega)),f]
theorem BU{D:aH}{p i:Nat}{l:List ay}:lZ D p l i=WI↔∀e∈l,iU D e.ah i p=WR:=by simp[lZ]
theorem MY{l:List ay}(hs:(l.map (·.ah)).Pairwise (·<·)){at':Nat}{e x:ay}(b:l[at']?=WJ e)(f:x∈l)(g:x.ah<e.ah):x∈l.take at':=by
 obtain⟨j,a⟩:=Xq f;by_cases c:j<at';·exact W8 (i:=j) (by rw[List.getElem?_take,if_pos c];exact a)
 ·exfalso;by_cases h:j=at';(·subst h;rw[b]at a;injection a with a;subst a;omega);·have d:=List.pairwise_iff_getElem.1 hs at' j;obtain⟨b1,e1⟩:=W9.1 b;obtain⟨b2,e2⟩:=W9.1 a;have:=d (by simpa using b1) (by simpa using b2) (by omega);simp only[List.getElem_map,e1,e2]at this;omega
theorem fc.granted{c:ak}(H:cA c){s0:Cells}{p:Nat}{P:Part}(h:fc c s0 p P){e:ay}(g:e∈P.opn)(m:∀x∈P.opn,x.ah<e.ah->iU c.D x.ah e.ah p=WR){k:Nat}(hk:cg (c.D.ts e.ah) (k:Nat)=WI)(d:fU c.D k=p):aN (P.hs,P.vl) k=aN (cQ c.D s0 e.ah) k:=by
 have j:=h.low e g;have q:=h.fX;refine h.dT k e.ah d (by omega) (λi hi a=>?_);constructor;·intro b;rw[iZ];refine⟨by omega,rz (λx r f=>?_)⟩;have:=m x r (by omega);rw[f,yz a d hk]at this;cases this
 ·intro hd;rcases Xk i e.ah with b|n;(·exact b);·exfalso;obtain⟨d1,d2⟩:=iZ.1 hd;(have o:i≠e.ah:=λx=>by have:=pC.2 ⟨e,g,rfl⟩;rw[x,this]at d2;cases d2);have l:=uw H hi (qJ a);rw[d]at l;have:=h.gr i l (.inl hd) e.ah (by omega) (Vh a d hk);have:=(iZ.1 this).2;rw[pC.2 ⟨e,g,rfl⟩]at this;cases this
theorem fc.G8{c:ak}(H:cA c){s0:Cells}{p:Nat}{P L:Part}(h:fc c s0 p P)(e:gE c p P=WJ L):fc c s0 p L:=by
 unfold gE at e;split at e;case isFalse=>cases e
 rename_i q;injection e with e;subst e;obtain⟨_,_,_,N⟩:=rf (dP c.D p P.opn) P.opn.length 0;have d:=N (by unfold gR at q;omega);change dP c.D p P.opn (gR c.D p P.opn)=WI at d;obtain⟨x,t⟩:∃x,P.opn[gR c.D p P.opn]?=WJ x:=⟨_,List.getElem?_eq_getElem q⟩;simp only[dP,iy,iO,t,WG,Xy]at d;obtain⟨E,G⟩:=d;have b:x∈P.opn:=W8 t;have I:∀y∈P.opn,y.ah<x.ah->iU c.D y.ah x.ah p=WR:=λy J s=>BU.1 G y (MY h.na t J s);have K:=yb P.opn (gR c.D p P.opn) (mS c.D P) (λ_=>rfl);have dn:=wm P _ K;generalize s:P.opn.modify (gR c.D p P.opn) (mS c.D P)=l at*;have mem:∀{e:ay},e∈l->e∈P.opn\/e=mS c.D P x:=by intro e a;rw[<-s]at a;rcases mem_modify a with a|⟨e0,u,rfl⟩;(·exact .inl a);·rw[t]at u;injection u with u;subst u;exact .inr rfl
 have f:l.length=P.opn.length:=by rw[<-s,Xu]
 refine⟨by rw[K];exact h.na,?_,?_,h.fX,h.sU,by show l.length<=c.W;rw[f];exact h.win,h.mh,by show P.n+16*l.length<=_;rw[f];exact h.cnt,h.nv,h.tok,?_,?_,?_,?_,h.own⟩;·intro e a;rcases mem a with a|rfl;(·exact h.low e a);·exact h.low x b
 ·intro e a;rcases mem a with a|rfl;(·exact h.tk e a);·exact h.tk x b
 ·intro e a d;rcases mem a with a|rfl;(·exact h.pk e a d);·intro k v;show(k,v)∈x.kept++oh (c.D.ts x.ah) P.hs P.vl↔_;rw[h.oH x b E,List.nil_append,Hl];constructor;(·rintro⟨B,z,g⟩;have r:=(h.own k v z).2;exact⟨g,r,by show aN (cQ c.D s0 x.ah) k=_;rw[<-h.granted H b I g r];exact z⟩);·rintro⟨B,z,g⟩;have r:=h.granted H b I B z;change aN (cQ c.D s0 x.ah) k=WJ v at g;rw[<-r]at g;exact⟨(h.own k v g).1,g,B⟩
 ·intro e a d;rcases mem a with a|rfl;(·exact h.oH e a d);·cases d
 ·intro i hi hd j w o;rw[dn];rw[dn]at hd;rcases hd with hd|⟨e,a,m,A⟩;(·exact h.gr i hi (.inl hd) j w o);·rcases mem a with a|rfl;(·exact h.gr i hi (.inr ⟨e,a,m,A⟩) j w o);·change x.ah=i at m;subst m;rw[iZ];refine⟨by have:=h.low x b;omega,rz (λy J C=>?_)⟩;have:=I y J (by omega);rw[C,o]at this;cases this
 ·intro k j hk w M;exact h.dT k j hk w (λi hi F=>by rw[M i hi F,dn])
theorem fc.aq{c:ak}{s0:Cells}{p:Nat}{P:Part}(h:fc c s0 p P)(q i:Nat):fc c s0 p (gH q i P):=by
 have t:=yb P.opn i (iI q) (λ_=>rfl);have dn:=wm P _ t;unfold gH;generalize u:P.opn.modify i (iI q)=l at*;have mem:∀{e:ay},e∈l->∃x∈P.opn,e.ah=x.ah/\e.read=x.read/\e.kept=x.kept:=by intro e a;rw[<-u]at a;rcases mem_modify a with a|⟨e0,w,rfl⟩;(·exact⟨e,a,rfl,rfl,rfl⟩);·exact⟨e0,W8 w,rfl,rfl,rfl⟩
 have d:l.length=P.opn.length:=by rw[<-u,Xu]
 refine⟨by rw[t];exact h.na,?_,?_,h.fX,h.sU,by show l.length<=c.W;rw[d];exact h.win,h.mh,by show P.n+16*l.length<=_;rw[d];exact h.cnt,h.nv,h.tok,?_,?_,?_,?_,h.own⟩;·intro e a;obtain⟨x,b,e1,e2,e3⟩:=mem a;rw[e1];exact h.low x b
 ·intro e a;obtain⟨x,b,e1,e2,e3⟩:=mem a;rw[e1];exact h.tk x b
 ·intro e a s;obtain⟨x,b,e1,e2,e3⟩:=mem a;rw[e1,e3];exact h.pk x b (by rw[<-e2];exact s)
 ·intro e a s;obtain⟨x,b,e1,e2,e3⟩:=mem a;rw[e3];exact h.oH x b (by rw[<-e2];exact s)
 ·intro i hi hd j g f;rw[dn];rw[dn]at hd;rcases hd with hd|⟨e,a,o,r⟩;(·exact h.gr i hi (.inl hd) j g f);·obtain⟨x,b,e1,e2,e3⟩:=mem a;exact h.gr i hi (.inr ⟨x,b,by rw[<-e1];exact o,by rw[<-e2];exact r⟩) j g f
 ·intro k j hk g v;exact h.dT k j hk g (λi hi m=>by rw[v i hi m,dn])
theorem fc.join{c:ak}{s0:Cells}{p:Nat}{P:Part}(h:fc c s0 p P){q:Nat}{x:bl}(b:x.fr=q/\x.ah<c.D.nl/\wK c.D s0 x.ah q x.ps)(d:(P.aY q).length≠c.C):fc c s0 p (jA q x P):=by
 have dn:∀i,bA (jA q x P) i=bA P i:=λ_=>rfl;refine⟨h.na,h.low,h.tk,h.fX,h.sU,h.win,?_,h.cnt,?_,h.tok,h.pk,h.oH,h.gr,h.dT,h.own⟩;·intro r;show(upd P.aY q (P.aY q++[x]) r).length<=c.C;unfold upd;split;(·simp only[W0,Xd,Xn];have:=h.mh q;omega);·exact h.mh r
 ·intro r y a;change y∈upd P.aY q (P.aY q++[x]) r at a;unfold upd at a;split at a;(·rename_i e;subst e;simp only[W3,WX]at a;rcases a with a|rfl;(·exact h.nv _ y a);·exact b);·exact h.nv r y a
theorem fc.Fv{c:ak}{s0:Cells}{p:Nat}{P d:Part}(h:fc c s0 p P){q:Nat}(e:gj q P=WJ d):fc c s0 p d:=by
 unfold gj at e;split at e;·cases e
 rename_i x l b;injection e with e;subst e;refine⟨h.na,h.low,h.tk,h.fX,h.sU,h.win,?_,h.cnt,?_,?_,h.pk,h.oH,h.gr,h.dT,h.own⟩;·intro r;show(upd P.aY q l r).length<=c.C;unfold upd;split;(·have:=h.mh q;rw[b]at this;simp only[Xd]at this;omega);·exact h.mh r
 ·intro r y a;change y∈upd P.aY q l r at a;unfold upd at a;split at a;(·rename_i e;subst e;exact h.nv _ y (by rw[b];simp[a]));·exact h.nv r y a
 ·intro y a;simp only[W3,WX]at a;rcases a with a|rfl;(·exact h.tok y a);·obtain⟨f,i,g⟩:=h.nv q y (by rw[b];simp);exact⟨i,by rw[f];exact g⟩
end
section
open Go.RowKit Go.Maps
theorem ui{a:Type}(f:Nat->a)(k:Nat)(x y:a):upd (upd f k x) k y=upd f k y:=by funext j;unfold upd;split<;>rfl
theorem OG{a:Type}(f:Nat->a)(k:Nat):upd f k (f k)=f:=by
 funext j;unfold upd;split;·rename_i h;rw[h]
 ·rfl
def bJ(z:Nat)(O:Nat->Nat)(w:WK)(e:Nat)(c:ak)(vB vL:WH)(K R:Nat)(E':aA)(w':WK):Prop:=∃O' f',aK z O' w' e c vB vL K R f' E'/\Ag z O w w'/\∀b,b<w.heap.size->O' b=O b
theorem bJ.step{z:Nat}{O g:Nat->Nat}{w w1 w2:WK}{e:Nat}{c:ak}{vB vL:WH}{K R:Nat}{E:aA}(d:Ag z O w w1)(f:∀b,b<w.heap.size->g b=O b)(h:bJ z g w1 e c vB vL K R E w2):bJ z O w e c vB vL K R E w2:=by obtain⟨l,j,i,m,k⟩:=h;exact⟨l,j,i,d.step m f,λb a=>by rw[k b (Xc a d.size)];exact f b a⟩
theorem aK.goes{z:Nat}{O:Nat->Nat}{w w':WK}{e:Nat}{c:ak}{vB vL:WH}{K R:Nat}{f:Nat->WH}{E:aA}(h:aK z O w e c vB vL K R f E)(a:WZ w.heap.size w w'):bJ z O w e c vB vL K R E w':=⟨O,f,h.below a,ao.bq a,λ_ _=>rfl⟩
theorem Ag.zv{z:Nat}{O:Nat->Nat}{w:WK}{K:Nat}(a:Own z O K)(j:Nat)(u:WH):Ag z O w (w.setCell ⟨K,j,WN⟩ u):=(ao.refl _ _).setCell (λh=>h a) u
theorem bT.append{z:Nat}{O:Nat->Nat}{w W1:WK}{c:Nat}{v:WH}{l:List ay}(h:bT z O w c v l)(q:WZ w.heap.size w W1)(D:l.length<=1000)(a:XJ)(e:ay)(p:WH)(g:∀j u,(bu (p,e))[j]?=WJ u->W1.cell? (a.add j)=WJ u)(hk:n6 z O w (p,e))(G:z<=c)(M:c<z+50):∃n w',(∀ty,(W6 #[123,123] ty #[v,.slice (WJ a) 1 1]).run WL W1=.ok n w')/\bT z (upd O W1.heap.size c) w' c n (l++[e])/\W1.grownBy w' v.ownBlock/\∃F H,n=.slice F (l.length+1) H:=by
 obtain⟨es,J,B,L,C⟩:=h;obtain⟨i0,hi,y,r,s⟩:=info_parts Tryz.AS;have m:=q.size;have t:W1.ownsRow 0 173 7 v l.length (es.flatMap bu):=ml B (λb d=>q.block b (B.lt b d).2);obtain⟨n,w',r1,r2,r3,r4⟩:=zy (P:=WL) W1 123 173 i0 _ 7 48 Tryz.underlying123 hi y r s rfl (by omega) v l.length _ t a 1 1 (bu (p,e)) rfl g (by obtain⟨⟨⟨ka,kc,o⟩,_⟩,_⟩:=hk;simp only at o;subst o;intro u E;simp[bu]at E;rcases E with rfl|rfl|rfl|rfl|rfl|rfl|rfl<;>rfl) (by omega) (by unfold maxLen;omega) (by omega);have k:Ag z O w w':=⟨Xj m r3.size,λb I f=>(r3.block b (Xc f m) (λK=>I (by have:=C b K.symm;exact⟨by omega,by omega⟩))).trans (q.block b f)⟩;have A:∀b,b<w.heap.size->upd O W1.heap.size c b=O b:=λb f=>bC _ _ (by omega);refine⟨n,w',r1,⟨es++[(p,e)],by simp[J],?_,?_,?_⟩,r3,?_⟩;·rw[List.flatMap_append,W0];simpa using r2
 ·intro x i;rcases W3.1 i with i|i;(·exact(L x i).move k A);·simp only[WX]at i;subst i;exact hk.move k A
 ·intro b d;rcases r4 with r4|r4;(·rw[r4]at d;rw[A b (B.lt b d).2];exact C b d);·rw[r4]at d;injection d with d;rw[<-d,upd_same]
 ·exact jD r2
theorem I6(e:Nat)(D:aH)(vB vL:WH)(p i0:Nat)(q:i0<=D.nl)(w:WK)(h:dB w e D vB vL):Xe WL 102 #[.pointer (WJ ⟨e,0,WN⟩),.int .i64 p,.int .i64 i0] w λe w'=>e=.returned (.int .i64 (iu D p i0:Nat))/\WZ w.heap.size w w':=by
 have t:=h.lt;obtain⟨a,cap,rfl,x,-⟩:=id h.l;go_enter Tryz.func102,Tryz.ntmps102;go_wp2;go_loopw[7](λi wr=>∃k:Nat,i0<=k/\k<=D.nl/\i=.int .i64 k/\Hid (∀j,i0<=j->j<k->bG D j p=WR)/\WZ w.heap.size w wr)(λi _=>D.nl-(intOf i).toNat);case atStart=>exact⟨i0,WO _,q,rfl,λj g s=>by omega,WM _ _⟩
 case round=>obtain⟨k,u,hk,rfl,d,b⟩:=hrel;have m:=h.below b;have c4:=m.c4;by_cases f:k<D.nl;(·cases r:bG D k p with|true=>have o:Hid (iu D p i0=k):=yn (D.nl-i0) i0 k (by omega) (by omega) d r;go_wp2_with(go_at_call 43;refine(pf _ D vB _ k p f _ m).mono ?_;rintro v w'⟨rfl,c⟩);go_ret;exact⟨by rw[o.out];rfl,b.trans (c.mono b.size)⟩|false=>(have n:Hid (∀j,i0<=j->j<k+1->bG D j p=WR):=λj g s=>by by_cases e:j=k;(·subst e;exact r);·exact d j g (by omega));clear d;go_wp2_with(go_at_call 43;refine(pf _ D vB _ k p f _ m).mono ?_;rintro v w'⟨rfl,c⟩);go_roundw;(case rel=>exact⟨k+1,by omega,by omega,by go_num,n,b.trans (c.mono b.size)⟩);case measure=>simp[intOf];omega);·(have o:Hid (iu D p i0=D.nl):=by have:=wF (p:=λi=>bG D i p) (D.nl-i0) i0 (λj g s=>d j g (by omega));show iu D p i0=D.nl;unfold iu;rw[this];omega);clear d;go_wp2_with fail;go_ret;exact⟨by rw[o.out];rfl,b⟩
end
end Go.Proofs.YtldeiiffabfmeaaGreatDoor
