
/- The program's scanner as a machine of plain data: what a bit means next has a name, a step is a function. No program here. No conditions. -/
import Derived.Test.YtplbmlpdefpplaaGreatDoorScK
namespace Go.Proofs.YtplbmlpdefpplaaGreatDoor
set_option linter.unusedVariables false
set_option linter.unusedSimpArgs false
open Go.RowKit
inductive Rw where
 | nil
 | stuffed
 | spaced
 | bare
 | over
inductive K0 where
 | top
 | classic
 | headed
 | dataPart
 | tail
 | delimited
 | done
 | trailed
 | heads
 | sumCl
 | esi
 | fdSize
 | fixd (k:Nat)
 | sumFd (k:Nat)
 | xlSize
 | headSum (n:Nat)
 | vc (n:Nat)
 | sumXl
inductive KS where
 | cl
 | sized
 | checked
inductive Fk where
 | rtr
 | brs
 | esi
 | sec
inductive KN where
 | identified
 | longOrNot
 | prolonged
 | classicOrNot
 | fdOrXL
 | flag (f:Fk) (k:K0)
 | size (s:KS)
 | data (n:Nat) (k:K0)
 | check (want:Nat) (k:K0)
 | sdt
 | vcid (n:Nat)
 | af (n:Nat)
inductive Nx where
 | none
 | num (left n:Nat) (k:KN)
 | must (want:List Nat) (k:K0)
 | slot
 | behind
structure PM where
 raw:Rw
 last:Nat
 alike:Nat
 stuffs:Nat
 every:Nat
 since:Nat
 re:Nat->Nat
 oR:List Nat
 oP:List Nat
 nx:Nx
 wrong:Bool
 f:Hd
 l:List Nat
 is:Sta
 kn:Bool
 seen:Nat
def PM.fin(m:PM)(s:Sta):PM:=⟨.over,0,0,0,0,0,fun _=>0,[],[],.none,false,noF,[],s,m.kn,m.seen⟩
def PM.bad(m:PM)(e:Nat):PM:=m.fin (z1j e)
def PM.num(m:PM)(size:Nat)(k:KN):PM:={ m with nx := .num size 0 k }
def PM.must(m:PM)(want:List Nat)(k:K0):PM:={ m with nx := .must want k }
def PM.check(m:PM)(want size:Nat)(k:K0):PM:=m.num size (.check want k)
def PM.sum(m:PM)(kind:Nat)(k:K0):PM:=m.check (m.re kind) (szK (kind:Nat)) k
def PM.tally(m:PM)(k:K0):PM:=m.check (zF (zw m.stuffs)) 4 k
def z1f:K0->PM->PM
 | .top,m=>m.num 11 .identified
 | .classic,m=>PM.num { m with f:={ m.f with K:=1 },oR:=[],oP:=[1] } 4 (.size .cl)
 | .headed,m=>PM.must { m with f:={ m.f with K:=3 },raw := .bare } [1,0,0,1] .dataPart
 | .dataPart,m=>PM.num { m with raw := .spaced,every:=8,since:=0,oR:=[],oP:=[4,5] } 8 .sdt
 | .tail,m=>PM.must { m with raw := .bare } [1] .delimited
 | .delimited,m=>{ m with is:=if m.wrong then m.is else { m.is with k:=1 },nx := .slot }
 | .done,m=>m.fin ⟨2,0,m.f,m.l⟩
 | .trailed,m=>PM.must { m with raw := .bare } [0,1,1,0] .tail
 | .heads,m=>m.must [0,0] .classic
 | .sumCl,m=>m.sum 1 .tail
 | .esi,m=>m.num 1 (.flag .esi .fdSize)
 | .fdSize,m=>m.num 4 (.size .sized)
 | .fixd k,m=>PM.tally { m with raw := .spaced,every:=4,since:=4,oP:=[k] } (.sumFd k)
 | .sumFd k,m=>m.sum k .tail
 | .xlSize,m=>m.num 11 (.size .checked)
 | .headSum n,m=>m.sum 4 (.vc n)
 | .vc n,m=>PM.num { m with oP:=[5] } 8 (.vcid n)
 | .sumXl,m=>m.sum 5 .trailed
def PM.fd(m:PM):PM:=PM.num { m with f:={ m.f with K:=2 },oP:=[] } 1 (.flag .brs .esi)
def PM.data(m:PM)(n:Nat)(k:K0):PM:=if n=0 then z1f k m else m.num 8 (.data n k)
def zcw:KS->Nat->PM->PM
 | .cl,n,m=>m.data n .sumCl
 | .sized,n,m=>PM.data { m with oR:=[zx n] } n (.fixd (zx n))
 | .checked,n,m=>m.tally (.headSum n)
def zl9:Fk->Bool->Hd->Hd
 | .rtr,b,f=>{ f with R:=b }
 | .brs,b,f=>{ f with B:=b }
 | .esi,b,f=>{ f with E:=b }
 | .sec,b,f=>{ f with S:=b }
def z8j(i:Int)(v:Nat):Int:=bits BinOp.or IntKind.u32 (i*262144%4294967296) v
def z1W:KN->Nat->PM->PM
 | .identified,v,m=>PM.num { m with f:={ m.f with I:=(v:Nat) } } 2 .longOrNot
 | .longOrNot,v,m=>if v=3 then PM.num { m with f:={ m.f with X:=true } } 18 .prolonged else if v=1 then m.bad 5 else PM.num { m with f:={ m.f with R:=v==2 } } 1 .classicOrNot
 | .prolonged,v,m=>PM.num { m with f:={ m.f with I:=z8j m.f.I v } } 1 (.flag .rtr .heads)
 | .classicOrNot,v,m=>if v=0 then z1f .classic m else if m.f.R then m.bad 5 else m.num 1 .fdOrXL
 | .fdOrXL,v,m=>if v=0 then m.fd else if m.kn then m.must [0] .headed else m.fin ⟨4,0,noF,[]⟩
 | .flag fk k,v,m=>z1f k { m with f:=zl9 fk (v==1) m.f }
 | .size s,v,m=>if z1c m.f.K v≠0\/(m.f.R=true/\z0m m.f.K v≠0)then m.bad 5 else zcw s (z0m m.f.K v) m
 | .data n k,v,m=>PM.data { m with l:=m.l++[v%256] } (n - 1) k
 | .check want k,v,m=>z1f k { m with wrong:=m.wrong||v != want }
 | .sdt,v,m=>PM.num { m with f:={ m.f with D:=(v%256:Nat) } } 1 (.flag .sec .xlSize)
 | .vcid n,v,m=>PM.num { m with f:={ m.f with V:=(v%256:Nat) } } 32 (.af n)
 | .af n,v,m=>PM.data { m with f:={ m.f with A:=(v:Nat) } } n .sumXl
def PM.mustGo(m:PM)(want:List Nat)(k:K0)(b:Nat):PM:=if b≠want.headD 0 then m.bad 5 else if want.tail=[]then z1f k m else { m with nx := .must want.tail k }
def PM.next(m:PM)(b:Nat):PM :=
 match m.nx with
 | .none=>m
 | .num left n k=>if left=1 then z1W k (n*2+b) m else { m with nx := .num (left - 1) (n*2+b) k }
 | .must want k=>m.mustGo want k b
 | .slot=>{ m with is:={ m.is with k:=0 },nx := .behind }
 | .behind=>if m.wrong then m.bad 6 else m.mustGo [1,1,1,1,1,1,1] .done b
def zcR(re:Nat->Nat)(k v:Nat):Nat->Nat:=fun j=>if j=k then v else re j
def zL(re:Nat->Nat)(ks:List Nat)(b:Nat):Nat->Nat:=ks.foldl (fun re k=>zcR re k (z2x (szK (k:Nat)) (z08 (k:Nat)) (re k) b)) re
def PM.add(m:PM)(b:Nat):PM:={ m with last:=b,alike:=if b=m.last then m.alike+1 else 1 }
def PM.step(m:PM)(b:Nat):PM :=
 match m.raw with
 | .stuffed =>
   if m.alike=5 then(if b=m.last then m.bad 4 else { m.add b with re:=zL m.re m.oR b,stuffs:=m.stuffs+1 })
   else PM.next { m.add b with re:=zL (zL m.re m.oR b) m.oP b } b
 | .spaced =>
   if m.since=m.every then(if b=m.last then m.bad 4 else { m.add b with since:=0 })
   else PM.next { m.add b with since:=m.since+1,re:=zL m.re m.oP b } b
 | .bare=>m.next b
 | _=>m
def z3j(re:Nat->Nat):Nat->Nat:=fun k=>if 1<=k/\k<=5 then zD (k:Nat)else re k
def PM.begin(m:PM):PM:=PM.must { m with raw := .stuffed,re:=z3j m.re,oR:=[2,3],oP:=[1,4] } [0] .top
def PM.isNil(m:PM):Bool:=match m.raw with | .nil=>true | _=>false
def PM.take(m:PM)(b:Nat):PM:=PM.step { (if m.isNil then m.begin else m)with seen:=m.seen+1 } b
def z9l(kn:Bool):PM:=⟨.nil,0,0,0,0,0,fun _=>0,[],[],.none,false,noF,[],zM,kn,0⟩
def goM(kn:Bool)(x:List Nat):PM:=x.foldl PM.take (z9l kn)
theorem zaX(kn:Bool)(x:List Nat)(b:Nat):goM kn (x++[b])=(goM kn x).take b:=by simp[goM]
end Go.Proofs.YtplbmlpdefpplaaGreatDoor
