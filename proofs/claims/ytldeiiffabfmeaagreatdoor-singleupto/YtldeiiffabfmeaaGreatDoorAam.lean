/- Parts of the proof, written short; the last text says what is proved. -/
import GoSem.Step
import Derived.Control
import Derived.Below
import Derived.KernelRfl
import Derived.IntWalk
import Derived.Conc.WgGenN2
set_option linter.all false
set_option maxRecDepth 100000
set_option maxHeartbeats 4000000
open Go renaming World->d,Value->f,Goroutine->j,Program->k,TypeId->l
open Go.Value renaming int->e,slice->i
variable{w v:Nat}{x y:d}
namespace Go
section
inductive Tk (n:Nat)|t
instance tk0:CoeSort (Tk 0) Type:=⟨λ_=>Nat⟩
instance tc0:Coe (Tk 0) Type:=⟨λ_=>Nat⟩
def V:Tk 0:=.t
instance tk1:CoeSort (Tk 1) Type:=⟨λ_=>Int⟩
instance tc1:Coe (Tk 1) Type:=⟨λ_=>Int⟩
def Y:Tk 1:=.t
instance tk2:CoeSort (Tk 2) Type:=⟨λ_=>Prop⟩
instance tc2:Coe (Tk 2) Type:=⟨λ_=>Prop⟩
def U:Tk 2:=.t
instance tk3:CoeSort (Tk 3) Type:=⟨λ_=>Bool⟩
instance tc3:Coe (Tk 3) Type:=⟨λ_=>Bool⟩
def I:Tk 3:=.t
instance tf0:CoeFun (Tk 4) λ_=>Type->Type:=⟨λ_=>List⟩
def L:Tk 4:=.t
instance tf1:CoeFun (Tk 5) λ_=>Type->Type:=⟨λ_=>Array⟩
def Z:Tk 5:=.t
instance tf2:CoeFun (Tk 6) λ_=>Type->Type:=⟨λ_=>Option⟩
def n6:Tk 6:=.t
def A{p:Prop}(h:p:=by omega):p:=h
def A7{p:Prop}(h:p:=by omega):p:=h
def F0{p:Prop}(h:p:=by simp):p:=h
def E1{p:Prop}(h:p:=by decide):p:=h
def vI{p:Prop}(h:p:=by kernel_rfl):p:=h
def pR{p:Prop}(h:p:=by go_num):p:=h
def pC{p:Prop}(h:p:=by grind):p:=h
def Fk{p:Prop}(h:p:=by simp;omega):p:=h
def n7:True:=⟨⟩
def zW:=@absurd
def rW:=@if_pos
def BW:=@if_neg
def C7:=@congrArg
def DA:=@decide_eq_true_eq
def DB:=@beq_iff_eq
def DE:=@if_true
def DP:=@if_false
end
end Go
namespace Go.Proofs.YtldeiiffabfmeaaGreatDoor
section
open Go.RowKit
instance aor:Coe d Nat:=⟨(·.heap.size)⟩
instance aom:Coe Nat Addr:=⟨(⟨·,0,none⟩)⟩
instance aoj:Coe Int f:=⟨e .i64⟩
instance aow:Coe Nat f:=⟨λn=>e .i64 n⟩
instance aou:Coe Bool f:=⟨.bool⟩
instance aoh:CoeFun d λ_=>Addr->f->d:=⟨World.setCell⟩
instance aok:CoeFun Nat λ_=>Nat->Option Nat->Addr:=⟨Addr.mk⟩
instance aod:CoeFun Act λ_=>Nat->f->f:=⟨λa=>a.tmps.getD⟩
instance aov{a:Type}:CoeOut (List a) Nat:=⟨List.length⟩
instance aoi{a:Type}:CoeOut (Array a) Nat:=⟨Array.size⟩
inductive UX|t
inductive TU|t
inductive Pf|t
inductive QM|t
def jw:UX:=.t
def kQ:TU:=.t
def FQ:Pf:=.t
def Jk:QM:=.t
instance aoe:Coe UX f:=⟨λ_=>i none 0 0⟩
instance aos:Coe TU f:=⟨λ_=>e .i64 0⟩
instance aot:Coe Pf<|List f:=⟨λ_=>[i none 0 0,i none 0 0,i none 0 0,i none 0 0]⟩
instance anZ:Coe QM<|List f:=⟨λ_=>[e .i64 0,e .i64 0,e .i64 0,e .i64 0]⟩
instance aon:Coe Pf<|Array f:=⟨λ_=>#[i none 0 0,i none 0 0,i none 0 0,i none 0 0]⟩
instance aoa:Coe QM<|Array f:=⟨λ_=>#[e .i64 0,e .i64 0,e .i64 0,e .i64 0]⟩
def jQ{w:d}:Below v w w:=Below.refl _ _
def lD{w:d}:Below v w w.drew:=(Below.refl _ _).drew
def kI{w:d}{o:Obj}:Below w w<|World.alloc w o:=Below.alloc (Below.refl _ _) (Nat.le_refl _) _
def yB{w:d}{o p:Obj}:Below w w<|World.alloc (World.alloc w o) p:=Below.alloc (Below.alloc (Below.refl _ _) (Nat.le_refl _) _) (by simp) _
def jK{n:Nat}:n<=n:=Nat.le_refl _
def j9{n:Nat}:0<=n:=Nat.zero_le _
def jz{c:Prop} [Decidable c]{g:Type}{a b:g}(h:¬c:=by first|omega|simp):ite c a b=b:=if_neg h
def nD{c:Prop} [Decidable c]{g:Type}{a b:g}(h:c:=by first|omega|simp):ite c a b=a:=if_pos h
end
end Go.Proofs.YtldeiiffabfmeaaGreatDoor
namespace Go.Rel
section
open Go.Conc Go.ConcN Go.RowKit Go.Conc.Lib Go.ConcR.Gen Go.ConcN.Gen
open Go.ConcR(KK wgBlock WgAt stA smA rd wr mk Payload DC0)
variable[Payload]{L:WgLink}{P:k}
def RA(ty:l)(Wg:V)(w a:d):U:=WgLive ty Wg w->WgLive ty Wg a
def ji{ty:l}{Wg:V}{w:d}(h:WgLive ty Wg w)(r:RA ty Wg w x):WgLive ty Wg x:=r h
def uR(P:k)(m:Mark)(b:j->d->U)(g:j)(w:d):U:=g.status=.running/\∃a,stepG P true g w=.go a w #[mk m]/\b a w
def oY(P:k)(ty:l)(Wg:V)(Stop:j->d->U)(g:j)(w:d):U:=∃m,Goes P true (RA ty Wg) DC0 Stop m g w
def Xz(P:k)(ty:l)(Wg:V)(b:j->d->U)(g:j)(w:d):U:=g.status=.running/\∀v:V,v<2147483647->WgAt ty Wg w (v*KK) 0->∃a,stepG P true g w=.go a (w (stA Wg)<|e .u64<|(v+1)*KK) #[rd<|stA Wg,wr<|stA Wg]/\b a (w (stA Wg)<|e .u64<|(v+1)*KK)
omit[Payload]in theorem Qx{a:I}{R:d->d->U}{D:d->d->Z Event->U}{S:j->d->U}{n:V}{g:j}{w:d}(h:Goes P a R D S n g w)(b:n<=v):Goes P a R D S v g w:=by induction b with|refl=>exact h|step _ c=>exact c.more
end
end Go.Rel
