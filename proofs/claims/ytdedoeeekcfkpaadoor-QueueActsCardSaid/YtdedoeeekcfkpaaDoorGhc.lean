/- Package slices over rows of what waits: Values, AppendSeq, Collect. Condition: at most a thousand. slices.SortFunc over what waits: the library's contract laid at this program. No conditions. What waits, told in order: slices.SortFunc, SortedFunc over it; package heaps' All. Condition: at most a thousand. The program's queue: all that waits told in order; an entry's item. Condition: at most a thousand. -/
import Derived.RangeFuncNested
import Derived.RangeFuncBound
import Derived.RangeFuncCalls
import Derived.RangeFuncLeaves
import Derived.RangeFuncBox
import Derived.Shelf.Abstract
import Derived.Shelf.RegionOpen
import Derived.WalkKit
import Derived.OwnWalkIn
import Derived.TacticsInMore
import Derived.LoopNIn
import Derived.LoopIn
import Derived.Maps.AppendAt
import Derived.Test.YtdedoeeekcfkpaaDoorGhb
import Derived.Shelf.SlSortCmp.NoneTotal
import Derived.Test.YtdedoeeekcfkpaaDoorGa
import Derived.Test.YtdedoeeekcfkpaaDoorGhd
import Derived.Test.YtdedoeeekcfkpaaDoorGj
import Derived.Deep.RegionWith
set_option maxHeartbeats 4000000
set_option maxRecDepth 100000
namespace Go.Proofs.YtdedoeeekcfkpaaDoor
set_option linter.unusedVariables false
set_option linter.unusedSimpArgs false
open Go.RowKit Go.Shelf
attribute [local go_sem] Oper.semAt_some
abbrev EnS:={ p:It × Value // ∃ a n k,p.2 = .slice a n k }
abbrev dS:EnS:=⟨dR,_,_,_,rfl⟩
def valS (L:List EnS):List (It × Value):=L.map Subtype.val
theorem valS_len (L:List EnS):(valS L).length=L.length:=by simp[valS]
theorem valS_get (L:List EnS) {k:Nat} (h:k < L.length):(valS L).getD k dR=(L.getD k dS).1:=by simp[valS,List.getD,h]
theorem valS_of (l:List (It × Value)) (h:SlE l):∃ L,valS L=l:=by
 induction l with
 | nil=>exact⟨[],rfl⟩
 | cons p l ih =>
   obtain⟨L,hL⟩:=ih fun q hq=>h q (List.mem_cons_of_mem _ hq)
   exact⟨⟨p,h p List.mem_cons_self⟩::L,congrArg (List.cons p) hL⟩
theorem RwE.below {w w':World} {g cap n:Nat} {l:List (It × Value)} (h:RwE w g cap l) (hb:Below n w w') (hg:g < n):RwE w' g cap l:=by
 obtain⟨cs,hc,r⟩:=h
 exact⟨cs,(hb.block g hg).trans hc,r⟩
theorem blk_own {β:Type} (B:Nat) (t:TypeId) (cs:Array Value):Own (fun (_:β) W=>Blk W B cs t):=fun s X Y row hs hg hrow =>
 (hg.block B hs.lt (fun e'=>by obtain⟨o,ho,hc⟩:=hrow B e'.symm;rw[show X.heap[B]? = _ from hs] at ho;cases ho;cases hc)).trans hs
theorem cells_new (w:World) (cs:List Value) (t:TypeId):∀ j u,cs[j]? = some u->(w.alloc (.cells cs.toArray t)).cell? ((⟨w.heap.size,0,none⟩:Addr).add j)=some u:=fun j u h=>by
 rw[Addr.add_lit,Nat.zero_add,(Blk.new w cs.toArray t).cell j]
 simpa using h
def RowsB (n:Nat) (W:World) (a:Option Addr) (cap:Nat) (L:List EnS):Prop:=0 < L.length->∃ g,a=some ⟨g,0,none⟩/\g < n/\RwE W g cap (valS L)
theorem values1_in (F:Fence) (n:Nat) (hf:F.fn 80) (hro:F.round=none) (hn:1<=n) (l Bs n₀:Nat) (a:Option Addr) (cap:Nat) (L:List EnS) (hlen:L.length<=1000) (J Jx:List EnS->World->Prop)
    (hY:∀ pre x W,J pre W->pre.length < L.length->YieldAt F (n - 1) Tryd.prog l #[.agg (enC x.1).toArray] W fun e W' =>
     (e = .returned (.bool true)/\J (pre++[x]) W'/\Below n₀ W W')\/(e = .returned (.bool false)/\Jx (pre++[x]) W'))
    (W:World) (hJ:AbidesFrom W.heap.size J) (hn0:n₀<=W.heap.size) (hBs:W.cell? ⟨Bs,0,none⟩=some (.slice a L.length cap)) (hr:RowsB n₀ W a cap L) (h0:J [] W) :
    CallsIn F n Tryd.prog 80 #[.func (.yield l) #[] #[],.pointer (some ⟨Bs,0,none⟩)] W fun e W'=>(∃ v,e = .returned v) /\
     ((∃ ys,ys=L/\J ys W')\/(∃ pre,pre <+: L/\Jx pre W')):=by
 refine callsIn_of_wp Tryd.func80 rfl hf ?_ hro
 simp only[Tryd.ntmps80,List.size_toArray,List.length_cons,List.length_nil,Nat.reduceAdd,Nat.reduceSub,Array.replicate_succ,Array.replicate_zero,List.push_toArray,List.append_toArray,List.nil_append,List.cons_append]
 gi_wp2
 gi_loopw [7] (fun i wr=>∃ k:Nat,k<=L.length/\i = .int .i64 k/\J (L.take k) wr/\Below n₀ W wr) (fun i _=>L.length - (intOf i).toNat)
 case atStart=>exact⟨0,Nat.zero_le _,rfl,h0,Below.refl _ _⟩
 case round =>
  obtain⟨k,hk,rfl,hJs,hnx⟩:=hrel
  by_cases hlt:k < L.length
  ·obtain⟨g,rfl,hg,hrw⟩:=hr (by omega)
   have hrw':=hrw.below hnx hg
   obtain⟨x,hx⟩:∃ x,L.getD k dS=x:=⟨_,rfl⟩
   have hp:(valS L).getD k dR=x.1:=by rw[valS_get L hlt,hx]
   have hT:L.take (k+1)=L.take k++[x]:=by rw[List.take_add_one,<- hx];simp[List.getD,hlt]
   obtain⟨⟨⟨xn,⟨xK,xI,xX,xR,xB,xE,xS,xD,xV,xA⟩,xl⟩,xv⟩,hone⟩:=x
   obtain⟨xa,xm,xc,rfl⟩:=id hone
   obtain⟨⟨ma0,ma1,ma2,ma3,ma4,ma5,ma6,ma7,ma8,ma9,ma10,ma11,ma12⟩,-⟩:=hrw'.at (by rw[valS_len];exact hlt) hp
   have hJa:=hJ _ _ (wr.alloc (.cells (enC ⟨⟨xn,⟨xK,xI,xX,xR,xB,xE,xS,xD,xV,xA⟩,xl⟩,(.slice xa xm xc)⟩).toArray 79)) none hJs (World.grownBy_alloc _ _ _) (fun r e=>by cases e)
   obtain⟨fn,tmps,assign,body,hy,hR⟩:=hY _ ⟨⟨⟨xn,⟨xK,xI,xX,xR,xB,xE,xS,xD,xV,xA⟩,xl⟩,(.slice xa xm xc)⟩,hone⟩ _ hJa (by rw[List.length_take];omega)
   simp only[enC,itC] at hy hR hJa
   generalize keyF ⟨xK,xI,xX,xR,xB,xE,xS,xD,xV,xA⟩=xk at ma0 hy hR hJa
   clear hrw hrw' hp hx
   gi_wp2
   refine hR.mono ?_
   rintro e W3 (⟨rfl,hJ3,hk3⟩ | ⟨rfl,hJx3⟩)
   ·gi_wp2
    go_roundw
    case rel=>exact⟨k+1,by omega,by simp,by rw[hT];exact hJ3,(hnx.alloc (Nat.le_trans hn0 hnx.size) _).trans hk3⟩
    case measure=>simp[intOf];omega
   ·gi_wp2
    refine bodyPost_ret (results_none rfl _ _ _) rfl ?_
    exact⟨⟨_,rfl⟩,.inr ⟨_,by rw[<- hT];exact List.take_prefix _ _,hJx3⟩⟩
  ·obtain rfl:k=L.length:=by omega
   gi_wp2
   go_end0
   exact⟨⟨_,rfl⟩,.inl ⟨_,rfl,by simpa using hJs⟩⟩
theorem values_stops (F:Fence) (n:Nat) (hf:F.fn 80) (hro:F.round=none) (hn:1<=n) (Bs n₀:Nat) (a:Option Addr) (cap:Nat) (L:List EnS) (hlen:L.length<=1000) (w:World) (hBs:Bs < w.heap.size) (hn0:n₀<=w.heap.size)
    (hc:w.cell? ⟨Bs,0,none⟩=some (.slice a L.length cap)) (hr:RowsB n₀ w a cap L) :
    SeqStopsK F n Tryd.prog 80 #[.pointer (some ⟨Bs,0,none⟩)] (fun x:EnS=>#[.agg (enC x.1).toArray]) (Below n₀) (fun ys=>ys=L) (fun pre=>pre <+: L) L.length w:=fun l J Jx W hW hJ _ hY h0 =>
 values1_in F n hf hro hn l Bs n₀ a cap L hlen J Jx hY W hJ (Nat.le_trans hn0 hW.size) ((hW.cell (p:=⟨Bs,0,none⟩) hBs).trans hc) (fun h=>by
  obtain⟨g,e,h1,h2⟩:=hr h
  exact⟨g,e,h1,h2.below hW (by omega)⟩) h0
theorem append_in (F:Fence) (n:Nat) (hf:F.fn 86) (hf1:F.fn 80) (hro:F.round=none) (hn:3<=n) (Bs:Nat) (a:Option Addr) (cap:Nat) (L:List EnS) (hlen:L.length<=1000) (w:World) (hBs:Bs < w.heap.size)
    (hc:w.cell? ⟨Bs,0,none⟩=some (.slice a L.length cap)) (hr:RowsB w.heap.size w a cap L) :
    CallsIn F n Tryd.prog 86 #[.slice none 0 0,.func (.func 80) #[] #[.pointer (some ⟨Bs,0,none⟩)]] w fun e W'=>∃ v,e = .returned v/\W'.ownsRow w.heap.size 79 13 v L.length (cellsE (valS L))/\Below w.heap.size w W':=by
 have h1:1<=n:=by omega
 obtain⟨i0,hi,hz0,hz1,hz2⟩:=info_parts infoHE
 refine callsIn_of_wp_marks Tryd.func86 rfl hf ?_ hro
 simp only[Tryd.ntmps86,List.size_toArray,List.length_cons,List.length_nil,Nat.reduceAdd,Nat.reduceSub,Array.replicate_succ,Array.replicate_zero,List.push_toArray,List.append_toArray,List.nil_append,List.cons_append]
 gi_wp2
 have bO:=Boxed.new w 70 (.slice none 0 0)
 have hB0:Below w.heap.size w (w.alloc (.cells #[.slice none 0 0] 70)):=(Below.refl _ w).alloc (Nat.le_refl _) _
 have hsz:(w.alloc (.cells #[.slice none 0 0] 70)).heap.size=w.heap.size+1:=by simp
 obtain⟨W0,hW0⟩:∃ W0,w.alloc (.cells #[.slice none 0 0] 70)=W0:=⟨_,rfl⟩
 rw[hW0] at bO hB0 hsz ⊢
 clear hW0
 refine wpIn_rangeFunc_ownH hro h1 (gf:=80) (lb:=#[.pointer (some ⟨Bs,0,none⟩)]) rfl hf1 (enters_of Tryd.func80 (by kernel_rfl) rfl)
  (values_stops F (n - 1) hf1 hro (by omega) Bs w.heap.size a cap L hlen W0 (by omega) (by omega) ((hB0.cell (p:=⟨Bs,0,none⟩) hBs).trans hc) (fun h=>by
   obtain⟨g,e,h1,h2⟩:=hr h
   exact⟨g,e,h1,h2.below hB0 h1⟩)) belowK_t (belowK_b (by omega)) (Below.refl _ _) (fun _=>rfl)
  (fun pre W=>(∃ v,Boxed W w.heap.size 70 v/\W.ownsRow w.heap.size 79 13 v pre.length (cellsE (valS pre))/\True)/\Below w.heap.size w W)
  (fun _ _ _=>False)
  (OwnFrom.and (Own.from (holdsRow_own w.heap.size w.heap.size 70 79 13 (fun pre:List EnS=>pre.length) (fun pre=>cellsE (valS pre)) (fun _ _=>True)) _) (ownFrom_below (Nat.le_refl _) (by omega)))
  (fun _ _ _ _ _ hs _ _=>hs)
  ⟨⟨_,bO,World.ownsRow_nil _ _ _ _,trivial⟩,hB0⟩
  (fun x a' W=>∃ Bx,w.heap.size < Bx/\Blk W Bx (enC x.1).toArray 79/\a'={ tmps:=#[.slice none 0 0,.func (.func 80) #[] #[.pointer (some ⟨Bs,0,none⟩)],.pointer (some ⟨w.heap.size,0,none⟩),undef,.slice none 0 0,.pointer (some ⟨Bx,0,none⟩),.func (.func 80) #[] #[.pointer (some ⟨Bs,0,none⟩)],.agg (enC x.1).toArray,undef,undef,undef,undef,undef],defers:=[] })
  (fun x a' _ X Y row hs hg hr=>by obtain⟨Bx,h1,h2,h3⟩:=hs;exact⟨Bx,h1,blk_own Bx 79 (enC x.1).toArray () X Y row h2 hg (fun r e=>(hr r e).2),h3⟩)
  ?assign ?body ?done ?stop
 case assign =>
  rintro l pre ⟨⟨⟨xn,⟨xK,xI,xX,xR,xB,xE,xS,xD,xV,xA⟩,xl⟩,xv⟩,hone⟩ W K ⟨⟨v,bS1,hrow,_⟩,hB1⟩ hK
  obtain⟨xa,xm,xc,rfl⟩:=id hone
  simp only[enC,itC] at hK ⊢
  generalize keyF ⟨xK,xI,xX,xR,xB,xE,xS,xD,xV,xA⟩=xk at hK ⊢
  gi_wp2
  exact hK _ _ ((KeepsOthers.alloc _ _).from _) ((Below.refl _ W).alloc hB1.size _) ⟨⟨v,bS1.alloc _,hrow.alloc _,trivial⟩,hB1.alloc hB1.size _⟩ ⟨W.heap.size,bS1.lt,Blk.new W _ _,rfl⟩
 case body =>
  rintro l pre ⟨⟨⟨xn,⟨xK,xI,xX,xR,xB,xE,xS,xD,xV,xA⟩,xl⟩,xv⟩,hone⟩ a' W hl ⟨r,hr⟩ ⟨⟨v,hv,hrow,_⟩,hB⟩ ⟨Bx,hBx,bX,rfl⟩ hlt
  obtain⟨xa,xm,xc,rfl⟩:=id hone
  have hc0:=hv.cell
  have hcs:=cells_new W (enC ⟨⟨xn,⟨xK,xI,xX,xR,xB,xE,xS,xD,xV,xA⟩,xl⟩,(.slice xa xm xc)⟩) 79
  have hone1:∀ u∈enC ⟨⟨xn,⟨xK,xI,xX,xR,xB,xE,xS,xD,xV,xA⟩,xl⟩,(.slice xa xm xc)⟩,u.oneCell'=true:=fun u hu=>enC_one _ u hu rfl
  have hVS:cellsE (valS (pre++[⟨⟨⟨xn,⟨xK,xI,xX,xR,xB,xE,xS,xD,xV,xA⟩,xl⟩,(.slice xa xm xc)⟩,hone⟩]))=cellsE (valS pre)++enC ⟨⟨xn,⟨xK,xI,xX,xR,xB,xE,xS,xD,xV,xA⟩,xl⟩,(.slice xa xm xc)⟩:=by simp[valS,cellsE]
  simp only[enC,itC] at bX hcs hone1 hVS ⊢
  generalize keyF ⟨xK,xI,xX,xR,xB,xE,xS,xD,xV,xA⟩=xk at bX hcs hone1 hVS ⊢
  have HVS:=Lib.hid hVS
  obtain⟨e0,e1,e2,e3,e4,e5,e6,e7,e8,e9,e10,e11,e12⟩:W.cell? ⟨Bx,0,none⟩=some (.int .u64 ((xk:Nat):Int))/\W.cell? ⟨Bx,1,none⟩=some (.int .i64 ((xn:Nat):Int))/\W.cell? ⟨Bx,2,none⟩=some (.int .i64 xK)/\W.cell? ⟨Bx,3,none⟩=some (.int .u32 xI)/\W.cell? ⟨Bx,4,none⟩=some (.bool xX)/\W.cell? ⟨Bx,5,none⟩=some (.bool xR)/\W.cell? ⟨Bx,6,none⟩=some (.bool xB)/\W.cell? ⟨Bx,7,none⟩=some (.bool xE)/\W.cell? ⟨Bx,8,none⟩=some (.bool xS)/\W.cell? ⟨Bx,9,none⟩=some (.int .u8 xD)/\W.cell? ⟨Bx,10,none⟩=some (.int .u8 xV)/\W.cell? ⟨Bx,11,none⟩=some (.int .u32 xA)/\W.cell? ⟨Bx,12,none⟩=some (.slice xa xm xc):=⟨bX.cell 0,bX.cell 1,bX.cell 2,bX.cell 3,bX.cell 4,bX.cell 5,bX.cell 6,bX.cell 7,bX.cell 8,bX.cell 9,bX.cell 10,bX.cell 11,bX.cell 12⟩
  clear hVS
  gi_wp2_with (gi_at_builtin;refine wpListIn_append_own _ rfl _ _ 70 rfl w.heap.size 79 i0 (.agg #[.int .u64 0,.int .i64 0,.int .i64 0,.int .u32 0,.bool false,.bool false,.bool false,.bool false,.bool false,.int .u8 0,.int .u8 0,.int .u32 0,.slice none 0 0]) 13 64 Tryd.underlying70 hi hz0 hz1 hz2 rfl (by decide) _ _ _ rfl (hrow.alloc _) ⟨W.heap.size,0,none⟩ 1 1 [(.int .u64 ((xk:Nat):Int)),(.int .i64 ((xn:Nat):Int)),(.int .i64 xK),(.int .u32 xI),(.bool xX),(.bool xR),(.bool xB),(.bool xE),(.bool xS),(.int .u8 xD),(.int .u8 xV),(.int .u32 xA),(.slice xa xm xc)] rfl rfl hcs hone1 (by unfold maxLen;omega) (by omega) (by have:=hB.size;simp;omega) ?_;intro v' w1 hown' hgrow _;obtain⟨g',cap',rfl⟩:=ownsRow_succ hown';obtain⟨hv1,hv2,hr2,hk2,hb2⟩:=hv.appended (by decide) hrow hB.size (Nat.le_refl _) hown' hgrow;have hc1:=hv1.cell;have hf1:=hv1.frozen)
  exact⟨hk2.from _,hb2,⟨_,hv2,by rw[HVS.out];simpa using hr2,trivial⟩,hB.trans hb2⟩
 case done =>
  rintro D ys W hD rfl ⟨⟨v,hv,hrow,_⟩,hB⟩ hK
  have hcv:=hv.cell
  gi_wp2
  refine⟨by simp,.inl ⟨_,_,rfl,run_takeDeferred hK,?_⟩⟩
  exact⟨_,results_tmp rfl _ _ _,v,rfl,ownsRow_putObj hrow _ hK rfl,hB.trans (belowK_b (w:=w) (Nat.le_refl _) W D _ _ (by omega) hK rfl rfl)⟩
 case stop =>
  rintro D c pre W _ _ h _
  exact h.elim
end Go.Proofs.YtdedoeeekcfkpaaDoor
namespace Go.Proofs.YtdedoeeekcfkpaaDoor
set_option linter.unusedVariables false
set_option linter.unusedSimpArgs false
open Go.Shelf
def sortEn_ren:Go.Shelf.Ren:=⟨fun | 6=>79 | 15=>88 | 14=>87 | 28=>97 | 29=>98 | 20=>89 | 21=>90 | 22=>91 | 23=>92 | 24=>93 | 25=>94 | 26=>95 | 27=>96 | 46=>99 | 47=>100 | 48=>101 | 49=>102 | 50=>103 | 57=>104 | n=>n,fun | 22=>70 | 24=>79 | 25=>71 | 3=>3 | 39=>126 | 0=>0 | 53=>33 | 55=>77 | 4=>4 | 46=>143 | 45=>142 | 50=>147 | 5=>5 | 9=>9 | 66=>151 | 70=>155 | 76=>157 | 77=>158 | n=>n,fun | n=>n⟩
theorem sortEn:Go.Proofs.SlLaysF0.n6 Tryd.prog sortEn_ren:={
 mixed:=by kernel_rfl
 f6:=⟨Tryd.f79.name,by decide,Tryd.func79.trans (congrArg some (by kernel_rfl))⟩
 f14:=⟨Tryd.f87.name,by decide,Tryd.func87.trans (congrArg some (by kernel_rfl))⟩
 f15:=Tryd.func88.trans (congrArg some (by kernel_rfl))
 f20:=⟨Tryd.f89.name,by decide,Tryd.func89.trans (congrArg some (by kernel_rfl))⟩
 f21:=⟨Tryd.f90.name,by decide,Tryd.func90.trans (congrArg some (by kernel_rfl))⟩
 f22:=⟨Tryd.f91.name,by decide,Tryd.func91.trans (congrArg some (by kernel_rfl))⟩
 f23:=⟨Tryd.f92.name,by decide,Tryd.func92.trans (congrArg some (by kernel_rfl))⟩
 f24:=⟨Tryd.f93.name,by decide,Tryd.func93.trans (congrArg some (by kernel_rfl))⟩
 f25:=⟨Tryd.f94.name,by decide,Tryd.func94.trans (congrArg some (by kernel_rfl))⟩
 f26:=⟨Tryd.f95.name,by decide,Tryd.func95.trans (congrArg some (by kernel_rfl))⟩
 f27:=⟨Tryd.f96.name,by decide,Tryd.func96.trans (congrArg some (by kernel_rfl))⟩
 f28:=Tryd.func97.trans (congrArg some (by kernel_rfl))
 f29:=Tryd.func98.trans (congrArg some (by kernel_rfl))
 f46:=⟨Tryd.f99.name,by decide,Tryd.func99.trans (congrArg some (by kernel_rfl))⟩
 f47:=Tryd.func100.trans (congrArg some (by kernel_rfl))
 f48:=Tryd.func101.trans (congrArg some (by kernel_rfl))
 f49:=⟨Tryd.f102.name,by decide,Tryd.func102.trans (congrArg some (by kernel_rfl))⟩
 f50:=⟨Tryd.f103.name,by decide,Tryd.func103.trans (congrArg some (by kernel_rfl))⟩
 f57:=⟨Tryd.f104.name,by decide,Tryd.func104.trans (congrArg some (by kernel_rfl))⟩
 t0:=Tryd.underlying0
 a0:=Tryd.isAgg0
 z0:=Tryd.sizeOf0
 v0:=Tryd.zeroValue0
 t3:=Tryd.underlying3
 a3:=Tryd.isAgg3
 z3:=Tryd.sizeOf3
 v3:=Tryd.zeroValue3
 t4:=Tryd.underlying4
 a4:=Tryd.isAgg4
 z4:=Tryd.sizeOf4
 v4:=Tryd.zeroValue4
 t5:=Tryd.underlying5
 a5:=Tryd.isAgg5
 z5:=Tryd.sizeOf5
 v5:=Tryd.zeroValue5
 t9:=Tryd.underlying9
 a9:=Tryd.isAgg9
 z9:=Tryd.sizeOf9
 v9:=Tryd.zeroValue9
 t22:=Tryd.underlying70
 a22:=Tryd.isAgg70
 z22:=Tryd.sizeOf70
 v22:=Tryd.zeroValue70
 t25:=Tryd.underlying71
 a25:=Tryd.isAgg71
 z25:=Tryd.sizeOf71
 v25:=Tryd.zeroValue71
 t39:=Tryd.underlying126
 a39:=Tryd.isAgg126
 z39:=Tryd.sizeOf126
 v39:=Tryd.zeroValue126
 t45:=Tryd.underlying142
 a45:=Tryd.isAgg142
 z45:=Tryd.sizeOf142
 v45:=Tryd.zeroValue142
 t46:=Tryd.underlying143
 a46:=Tryd.isAgg143
 z46:=Tryd.sizeOf143
 v46:=Tryd.zeroValue143
 t50:=Tryd.underlying147
 a50:=Tryd.isAgg147
 z50:=Tryd.sizeOf147
 v50:=Tryd.zeroValue147
 t53:=Tryd.underlying33
 a53:=Tryd.isAgg33
 z53:=Tryd.sizeOf33
 v53:=Tryd.zeroValue33
 t55:=Tryd.underlying77
 a55:=Tryd.isAgg77
 z55:=Tryd.sizeOf77
 v55:=Tryd.zeroValue77
 t66:=Tryd.underlying151
 a66:=Tryd.isAgg151
 z66:=Tryd.sizeOf151
 v66:=Tryd.zeroValue151
 t70:=Tryd.underlying155
 a70:=Tryd.isAgg155
 z70:=Tryd.sizeOf155
 v70:=Tryd.zeroValue155
 t76:=Tryd.underlying157
 a76:=Tryd.isAgg157
 z76:=Tryd.sizeOf157
 v76:=Tryd.zeroValue157
 t77:=Tryd.underlying158
 a77:=Tryd.isAgg158
 z77:=Tryd.sizeOf158
 v77:=Tryd.zeroValue158 }
end Go.Proofs.YtdedoeeekcfkpaaDoor
namespace Go.Proofs.YtdedoeeekcfkpaaDoor
set_option linter.unusedVariables false
set_option linter.unusedSimpArgs false
open Go.RowKit Go.Shelf Go.Sort
instance instEn:Inhabited EnS:=⟨dS⟩
def enS (x:EnS):List Value:=enC x.1
def cfE (p q:EnS):Int:=cmpG (kpE p.1) (kpE q.1)
theorem ltE (p q:EnS):ltOf cfE p q=ahB (kpE p.1) (kpE q.1):=cmpG_lt _ _
theorem swoE:SWO (ltOf cfE) where
 irrefl x:=by
  rw[ltE]
  have:=mt (ahB_iff (kpE x.1) (kpE x.1)).1 (fun h=>h (leP_refl _))
  simpa using this
 trans x y z h1 h2:=by
  rw[ltE,ahB_iff] at *
  intro h
  exact h1 (leP_trans (leP_not h2) h)
 ntrans x y z h1 h2:=by
  rw[ltE] at *
  have a:leP (kpE y.1) (kpE x.1):=Decidable.not_not.1 (mt (ahB_iff _ _).2 (by rw[h1];simp))
  have b:leP (kpE z.1) (kpE y.1):=Decidable.not_not.1 (mt (ahB_iff _ _).2 (by rw[h2];simp))
  have:=mt (ahB_iff (kpE x.1) (kpE z.1)).1 (fun h=>h (leP_trans b a))
  simpa using this
theorem getS (L:List EnS) {j:Nat} (h:j < L.length):enS (L.toArray[j]!)=enC ((valS L).getD j dR):=by
 rw[getElem!_pos L.toArray j (by simpa using h),valS_get L h]
 simp[List.getD,h,enS]
theorem RwE.holds {w:World} {g cap:Nat} {L:List EnS} (h:RwE w g cap (valS L)):HoldsK enS 13 w g 0 L.toArray:=fun j hj=>by
 rw[size_flatK,List.size_toArray] at hj
 have hd:j / 13 < L.length:=by omega
 have hm:j%13 < (enC ((valS L).getD (j / 13) dR)).length:=by rw[enC_len];omega
 rw[get_flatK _ _ _ _ (by simpa using hj),getS L hd]
 have:=h.cell (by rw[valS_len];exact hd) (i:=j%13) (u:=(enC ((valS L).getD (j / 13) dR))[j%13]) (List.getElem?_eq_getElem hm)
 rw[show j / 13*13+j%13=j by omega] at this
 rw[getElem!_pos (enC ((valS L).getD (j / 13) dR)) (j%13) hm,Nat.zero_add]
 exact this
theorem sortW {w:World} {g cap n:Nat} {L:List EnS} {d:Array EnS} {os:Array Obj} (h:RwE w g cap (valS L)) (hd:d.size=L.length):RwE (sortWorldK enS 13 w g 0 n d os) g cap (valS d.toList)/\Kp (·=g) w (sortWorldK enS 13 w g 0 n d os):=by
 have hH:=holdsK_sortWorldK_c enS 13 w g 0 L.toArray d n os h.holds h.lt (by simpa using hd)
 obtain⟨cs,hb,hs,h1,h2,h3⟩:=h
 have hlt:=hb.lt
 have hother:∀ k,k < w.heap.size->k≠g->(sortWorldK enS 13 w g 0 n d os).heap[k]? = w.heap[k]? := fun k hk hne=>by
  unfold sortWorldK
  rw[heap_grow_old _ _ (by simpa [putRowK,putRow,mapBlock,Sort.ahead] using hk)]
  simp[putRowK,putRow,mapBlock,Sort.ahead,Array.getElem?_modify,Ne.symm hne]
 have hself:∃ cs',Blk (sortWorldK enS 13 w g 0 n d os) g cs' 79/\cs'.size=cs.size:=by
  refine⟨putCells id 0 (flatK enS 13 d) cs,?_,by simp[putCells]⟩
  unfold Blk sortWorldK
  rw[heap_grow_old _ _ (by simpa [putRowK,putRow,mapBlock,Sort.ahead] using hlt)]
  simp[putRowK,putRow,mapBlock,Sort.ahead,Array.getElem?_modify,show w.heap[g]? = _ from hb,onCells]
 obtain⟨cs',b',s'⟩:=hself
 have hvl:(valS d.toList).length=L.length:=by rw[valS_len];simpa using hd
 rw[valS_len] at h1
 refine⟨⟨cs',b',by rw[s',hs],by rw[hvl];exact h1,h2,fun j hj i hi => ?_⟩,Eq.refl _,Eq.refl _,Eq.refl _,?_,fun k hk hn=>hother k hk hn⟩
 ·have hj':j < d.size:=by rw[hvl] at hj;omega
  have:=(hH.cell hj' hi).1
  rw[Nat.zero_add,b'.cell] at this
  rw[this]
  have e:enS d[j]! = enC ((valS d.toList).getD j dR):=by
   have:=getS d.toList (j:=j) (by simpa using hj')
   simpa using this
  have hm:i < (enC ((valS d.toList).getD j dR)).length:=by rw[enC_len];exact hi
  rw[e,getElem!_pos (enC ((valS d.toList).getD j dR)) i hm,List.getElem?_eq_getElem hm]
 ·simp[sortWorldK,putRowK,putRow,mapBlock,Sort.ahead]
def SrtE (l:List (It × Value)):Prop:=l.Pairwise fun x y=>leP (kpE x) (kpE y)
theorem sort_any (g cap:Nat) (L:List EnS) (w:World) (h:RwE w g cap (valS L)) (hl:L.length<=1000) :
    Calls Tryd.prog 79 #[.slice (some ⟨g,0,none⟩) L.length cap,cmpHE] w fun e w'=>e = .returned (.tuple #[])/\∃ L':List EnS,(valS L').Perm (valS L)/\SrtE (valS L')/\RwE w' g cap (valS L')/\Kp (·=g) w w':=by
 have eg:∀ args w,(callFunc 32 args).run Tryd.prog w = .ok (.enter 32 args) w:=hcf _ _ Tryd.func32 (by kernel_rfl) (by kernel_rfl)
 have hcon:=AnyQ.slices_SortFunc sortEn 13 Tryd.isAgg79 Tryd.sizeOf79 enS (fun p=>rfl) (fun p u hu=>enC_one p.1 u hu (by obtain⟨a,n,k,e⟩:=p.2;rw[e];rfl)) cfE swoE 32 #[] g 0 cap L.toArray w eg (fun m os dk _ x y=>by
     have:=hcmpE_any x.1 y.1 (sortWorldK enS 13 w g 0 m dk os)
     simpa [cfE,enS] using this) h.holds h.lt (by simp;omega)
 rw[List.size_toArray] at hcon
 refine Calls.mono (show Calls Tryd.prog 79 #[.slice (some ⟨g,0,none⟩) L.length cap,cmpHE] w _ from hcon) ?_
 rintro e w' ⟨he,d,n,os,hp,hs,rfl⟩
 obtain⟨p1,_,p3⟩:=hp
 have p1:d.size=L.length:=by simpa using p1
 obtain⟨r1,r2⟩:=sortW (n:=n) (os:=os) h p1
 refine⟨he,d.toList,?_,?_,r1,r2⟩
 ·have e1:d.extract 0 L.length=d:=by rw[<- p1];exact Array.extract_size
  have e2:L.toArray.extract 0 L.length=L.toArray:=by
   rw[show L.length=L.toArray.size by simp]
   exact Array.extract_size
  rw[e1,e2] at p3
  exact p3.map Subtype.val
 ·unfold SrtE
  rw[List.pairwise_iff_getElem]
  intro i j hi hj hij
  rw[valS_len] at hi hj
  have hi':i < d.size:=by simpa using hi
  have hj':j < d.size:=by simpa using hj
  have q:=hs i j (Nat.zero_le _) hij (by rw[<- p1];exact hj')
  rw[getElem!_pos d i hi',getElem!_pos d j hj',ltE] at q
  have a:leP (kpE d[i].1) (kpE d[j].1):=Decidable.not_not.1 (mt (ahB_iff _ _).2 (by rw[q];simp))
  simpa [valS] using a
theorem collect_any (Bs:Nat) (a:Option Addr) (cap:Nat) (L:List EnS) (hlen:L.length<=1000) (w:World) (hBs:Bs < w.heap.size)
    (hc:w.cell? ⟨Bs,0,none⟩=some (.slice a L.length cap)) (hr:RowsB w.heap.size w a cap L) :
    Calls Tryd.prog 78 #[.func (.func 80) #[] #[.pointer (some ⟨Bs,0,none⟩)]] w fun e w'=>∃ v,e = .returned v/\w'.ownsRow w.heap.size 79 13 v L.length (cellsE (valS L))/\Nb w w':=by
 have HA:=Lib.hid (callsIn_wide.1 (append_in Fence.wide 5 trivial trivial rfl (by omega) Bs a cap L hlen w hBs hc hr))
 clear hBs hc hr
 go_enter Tryd.func78,Tryd.ntmps78
 go_wp2_with fail
 refine HA.out.mono ?_
 rintro e w1 ⟨v,rfl,o1,n1⟩
 have O1:=Lib.hid o1
 have N1:=Lib.hid n1
 clear o1 n1
 go_wp2
 go_ret
 exact⟨v,rfl,O1.out,N1.out⟩
theorem sorted_any (Bs:Nat) (a:Option Addr) (cap:Nat) (L:List EnS) (hlen:L.length<=1000) (w:World) (hBs:Bs < w.heap.size)
    (hc:w.cell? ⟨Bs,0,none⟩=some (.slice a L.length cap)) (hr:RowsB w.heap.size w a cap L) :
    Calls Tryd.prog 64 #[.func (.func 80) #[] #[.pointer (some ⟨Bs,0,none⟩)],cmpHE] w fun e w'=>∃ v L',e = .returned v/\(valS L').Perm (valS L)/\SrtE (valS L')/\OwnE w' v (valS L')/\(∀ g,v.ownBlock=some g->w.heap.size<=g)/\Nb w w':=by
 have HC:=Lib.hid (collect_any Bs a cap L hlen w hBs hc hr)
 clear hBs hc hr
 unfold cmpHE
 go_enter Tryd.func64,Tryd.ntmps64
 go_wp2_with fail
 refine HC.out.mono ?_
 rintro e w1 ⟨v,rfl,o1,n1⟩
 have G1:=Lib.hid (show ∀ g,v.ownBlock=some g->w.heap.size<=g from fun g e=>(o1.lt g e).1)
 have o2:OwnE w1 v (valS L):=by
  unfold OwnE
  rw[valS_len]
  exact ownsRow_weak o1
 have N1:=Lib.hid n1
 obtain⟨a1,c1,rfl,ha,_,_⟩:=o2.shape
 rw[valS_len] at o2 G1 ⊢
 by_cases h0:L.length=0
 ·have HS:=Lib.hid (fun w'=>AnyF.slices_SortFunc_none (P:=Tryd.prog) (ρ:=sortEn_ren) { sortEn with } a1 c1 (.func (.func 32) #[] #[]) w')
  have HS2:=Lib.hid (show ∀ w',Calls Tryd.prog 79 #[.slice a1 0 c1,.func (.func 32) #[] #[]] w' fun e w2=>e = .returned (.tuple #[])/\w2=w' from fun w'=>HS.out w')
  have O2:=Lib.hid o2
  have H0:=Lib.hid h0
  rw[h0] at o2 O2 G1 ⊢
  clear o1 o2 n1 ha HS h0
  go_wp2_with fail
  refine (HS2.out _).mono ?_
  rintro e w2 ⟨rfl,rfl⟩
  go_wp2
  go_ret
  have e0:L=[]:=List.length_eq_zero_iff.1 H0.out
  subst e0
  exact⟨_,[],rfl,List.Perm.refl _,List.Pairwise.nil,O2.out,G1.out,N1.out⟩
 ·obtain⟨g,rfl⟩:=ha (by rw[valS_len];omega)
  have r1:=o2.rw.2
  have HS:=Lib.hid (sort_any g c1 L w1 r1 hlen)
  unfold cmpHE at HS
  clear o1 o2 n1 ha r1
  go_wp2_with fail
  refine HS.out.mono ?_
  rintro e w2 ⟨rfl,L2,p1,p2,p3,p4⟩
  have P1:=Lib.hid p1
  have P2:=Lib.hid p2
  have hl2:(valS L2).length=L.length:=by rw[p1.length_eq,valS_len]
  have O2:=Lib.hid (show OwnE w2 (.slice (some ⟨g,0,none⟩) L.length c1) (valS L2) by
   have:=p3.own
   rw[hl2] at this
   exact this)
  have N2:=Lib.hid (show Nb w w2 from N1.out.trans (p4.toBelow N1.out.size (fun k e=>by have:=G1.out g rfl;omega)))
  clear p1 p2 p3 p4 hl2
  go_wp2
  go_ret
  exact⟨_,L2,rfl,P1.out,P2.out,O2.out,G1.out,N2.out⟩
end Go.Proofs.YtdedoeeekcfkpaaDoor
namespace Go.Proofs.YtdedoeeekcfkpaaDoor
set_option linter.unusedVariables false
set_option linter.unusedSimpArgs false
open Go.RowKit Go.Sort
theorem values_any (a:Option Addr) (n cap:Nat) (w:World) :
    Calls Tryd.prog 65 #[.slice a n cap] w fun e w'=>∃ Bs,e = .returned (.func (.func 80) #[] #[.pointer (some ⟨Bs,0,none⟩)])/\Bs < w'.heap.size/\w'.cell? ⟨Bs,0,none⟩=some (.slice a n cap)/\Nb w w':=by
 go_enter Tryd.func65,Tryd.ntmps65
 go_wp2
 go_ret
 have b:=Blk.new w #[.slice a n cap] 70
 exact⟨_,rfl,b.lt,b.cell 0,Nb.rfl.al _⟩
theorem wall_any (R:Nat) (r s v:Value) (l:List (It × Value)) (w:World) (h:HeE w R r s v l) (hS:SlE l) (hl:l.length<=1000) :
    Calls Tryd.prog 44 #[.pointer (some ⟨R,2,none⟩)] w fun e w'=>∃ u l',e = .returned u/\l'.Perm l/\SrtE l'/\OwnE w' u l'/\(∀ g,u.ownBlock=some g->w.heap.size<=g)/\Nb w w':=by
 obtain⟨L,rfl⟩:=valS_of l hS
 have hlen:L.length<=1000:=by rw[valS_len] at hl;exact hl
 obtain⟨a,cap,rfl,ha,_,_⟩:=h.own.shape
 rw[valS_len] at h ha
 have HR:=Lib.hid (fun w' (n:Nb w w')=>(show w'.cell? ⟨R,2,none⟩=_ from ((h.blk.nb n).cell 2):w'.cell? ⟨R,2,none⟩=some (.slice a L.length cap)))
 have HC:=Lib.hid (fun w' (n:Nb w w')=>(show w'.cell? ⟨R,3,none⟩=_ from ((h.blk.nb n).cell 3):w'.cell? ⟨R,3,none⟩=some (.func (.func 32) #[] #[])))
 have HV:=Lib.hid (fun w'=>values_any a L.length cap w')
 have HS:=Lib.hid (fun w' (n:Nb w w') Bs (h1:Bs < w'.heap.size) (h2:w'.cell? ⟨Bs,0,none⟩=some (.slice a L.length cap))=>sorted_any Bs a cap L hlen w' h1 h2 (fun h0=>by
  obtain⟨g,rfl⟩:=ha h0
  have r:=(h.nb n).own.rw.2
  exact⟨g,rfl,r.lt,r⟩))
 unfold cmpHE at HS
 have NB:=Lib.hid (show Nb w w.drew from Below.drew (Below.refl _ _))
 have r2:=HR.out w Nb.rfl
 have r3:=HC.out w Nb.rfl
 clear h ha hS hl
 go_enter Tryd.func44,Tryd.ntmps44
 go_wp2_with fail
 go_region_held3 (fun w'=>w'.cell? ⟨R,2,none⟩=some (.slice a L.length cap)/\w'.cell? ⟨R,3,none⟩=some (.func (.func 32) #[] #[])) (first | go_keep | exact⟨HR.out _ NB.out,HC.out _ NB.out⟩) (first | (go_at_call 65;refine (HV.out _).mono ?_;rintro e w7 ⟨Bs,rfl,b1,b2,n7⟩;have NB:=Lib.hid (NB.out.tr n7);have B1:=Lib.hid b1;have B2:=Lib.hid b2;clear b1 b2 n7) | (go_at_call 64;refine (HS.out _ NB.out _ B1.out B2.out).mono ?_;rintro e w8 ⟨u,L2,rfl,p1,p2,p3,p4,n8⟩;have G8:=Lib.hid (show ∀ g,u.ownBlock=some g->w.heap.size<=g from fun g e=>Nat.le_trans NB.out.size (p4 g e));have P1:=Lib.hid p1;have P2:=Lib.hid p2;have P3:=Lib.hid p3;have NB:=Lib.hid (NB.out.tr n8);clear p1 p2 p3 p4 n8))
 go_wp2
 go_ret
 exact⟨u,valS L2,rfl,P1.out,P2.out,P3.out,G8.out,NB.out⟩
theorem item_any (x:It) (a:Option Addr) (cap:Nat) (w:World) (h:Bs w a cap x.l) (hl:x.l.length<=140737488355328) :
    Calls Tryd.prog 45 #[.agg (enC (x,.slice a x.l.length cap)).toArray] w fun e w'=>(∃ a' c',e = .returned (itV x (.slice a' x.l.length c'))/\Fresh w w' (.slice a' x.l.length c') x.l)/\Nb w w':=by
 obtain⟨xn,⟨xK,xI,xX,xR,xB,xE,xS,xD,xV,xA⟩,xl⟩:=x
 have HCp:=Lib.hid (fun w' (n:Nb w w')=>copy_all ⟨xK,xI,xX,xR,xB,xE,xS,xD,xV,xA⟩ a cap xl w' (h.below n) hl)
 simp only[enC,itC,itV,itA,Hd.cs] at HCp ⊢
 generalize keyF ⟨xK,xI,xX,xR,xB,xE,xS,xD,xV,xA⟩=xk
 obtain⟨y,hy⟩:∃ y,y=(w.alloc (.cells #[(.int .u64 xk),(.int .i64 (xn:Nat)),(.int .i64 xK),(.int .u32 xI),(.bool xX),(.bool xR),(.bool xB),(.bool xE),(.bool xS),(.int .u8 xD),(.int .u8 xV),(.int .u32 xA),(.slice a xl.length cap)] 79)).alloc (.cells #[.int .i64 0,.int .i64 0,.int .u32 0,.bool false,.bool false,.bool false,.bool false,.bool false,.int .u8 0,.int .u8 0,.int .u32 0,.slice none 0 0] 40):=⟨_,rfl⟩
 have X0:=Lib.hid (show Blk y w.heap.size #[(.int .u64 xk),(.int .i64 (xn:Nat)),(.int .i64 xK),(.int .u32 xI),(.bool xX),(.bool xR),(.bool xB),(.bool xE),(.bool xS),(.int .u8 xD),(.int .u8 xV),(.int .u32 xA),(.slice a xl.length cap)] 79 by rw[hy];exact (Blk.new _ _ _).nb (Nb.rfl.al _))
 have X1:=Lib.hid (show Blk y (w.heap.size+1) #[.int .i64 0,.int .i64 0,.int .u32 0,.bool false,.bool false,.bool false,.bool false,.bool false,.int .u8 0,.int .u8 0,.int .u32 0,.slice none 0 0] 40 by
  rw[hy]
  have:=Blk.new (w.alloc (.cells #[(.int .u64 xk),(.int .i64 (xn:Nat)),(.int .i64 xK),(.int .u32 xI),(.bool xX),(.bool xR),(.bool xB),(.bool xE),(.bool xS),(.int .u8 xD),(.int .u8 xV),(.int .u32 xA),(.slice a xl.length cap)] 79)) #[.int .i64 0,.int .i64 0,.int .u32 0,.bool false,.bool false,.bool false,.bool false,.bool false,.int .u8 0,.int .u8 0,.int .u32 0,.slice none 0 0] 40
  rw[World.size_alloc] at this
  exact this)
 have NY:=Lib.hid (show Nb w y by rw[hy];exact (Nb.rfl.al _).al _)
 have HY:=Lib.hid hy
 have SY:=Lib.hid (show y.heap.size=w.heap.size+2 by rw[hy,World.size_alloc,World.size_alloc])
 clear hy h
 have ND:=Lib.hid (show Nb w y.drew from NY.out.tr (Below.drew (Below.refl _ _)))
 have NB:=Lib.hid (show Nb y y.drew from Below.drew (Below.refl _ _))
 go_enter Tryd.func45,Tryd.ntmps45
 go_wp2_with fail
 rw[<- HY.out]
 obtain⟨b1,b2,b3,b4,b5,b6,b7,b8,b9,b10,b11,b12⟩:y.cell? ⟨w.heap.size,1,none⟩=some (.int .i64 (xn:Nat))/\y.cell? ⟨w.heap.size,2,none⟩=some (.int .i64 xK)/\y.cell? ⟨w.heap.size,3,none⟩=some (.int .u32 xI)/\y.cell? ⟨w.heap.size,4,none⟩=some (.bool xX)/\y.cell? ⟨w.heap.size,5,none⟩=some (.bool xR)/\y.cell? ⟨w.heap.size,6,none⟩=some (.bool xB)/\y.cell? ⟨w.heap.size,7,none⟩=some (.bool xE)/\y.cell? ⟨w.heap.size,8,none⟩=some (.bool xS)/\y.cell? ⟨w.heap.size,9,none⟩=some (.int .u8 xD)/\y.cell? ⟨w.heap.size,10,none⟩=some (.int .u8 xV)/\y.cell? ⟨w.heap.size,11,none⟩=some (.int .u32 xA)/\y.cell? ⟨w.heap.size,12,none⟩=some (.slice a xl.length cap):=⟨X0.out.cell 1,X0.out.cell 2,X0.out.cell 3,X0.out.cell 4,X0.out.cell 5,X0.out.cell 6,X0.out.cell 7,X0.out.cell 8,X0.out.cell 9,X0.out.cell 10,X0.out.cell 11,X0.out.cell 12⟩
 go_region_held3 (fun w'=>w'.cell? ⟨w.heap.size,1,none⟩=some (.int .i64 (xn:Nat))/\w'.cell? ⟨w.heap.size,2,none⟩=some (.int .i64 xK)/\w'.cell? ⟨w.heap.size,3,none⟩=some (.int .u32 xI)/\w'.cell? ⟨w.heap.size,4,none⟩=some (.bool xX)/\w'.cell? ⟨w.heap.size,5,none⟩=some (.bool xR)/\w'.cell? ⟨w.heap.size,6,none⟩=some (.bool xB)/\w'.cell? ⟨w.heap.size,7,none⟩=some (.bool xE)/\w'.cell? ⟨w.heap.size,8,none⟩=some (.bool xS)/\w'.cell? ⟨w.heap.size,9,none⟩=some (.int .u8 xD)/\w'.cell? ⟨w.heap.size,10,none⟩=some (.int .u8 xV)/\w'.cell? ⟨w.heap.size,11,none⟩=some (.int .u32 xA)/\w'.cell? ⟨w.heap.size,12,none⟩=some (.slice a xl.length cap)) (first | go_keep | exact (fun (b:Blk w7 w.heap.size _ _)=>⟨b.cell 1,b.cell 2,b.cell 3,b.cell 4,b.cell 5,b.cell 6,b.cell 7,b.cell 8,b.cell 9,b.cell 10,b.cell 11,b.cell 12⟩) (X0.out.nb NB.out)) ((go_at_call 30;refine (HCp.out _ ND.out).mono ?_;rintro e w7 ⟨⟨a1,c1,rfl,f1⟩,n7⟩;have F1:=Lib.hid f1;have NB:=Lib.hid (NB.out.tr n7);have X7:=Lib.hid (X1.out.nb NB.out);have hlt7:=X7.out.lt;obtain⟨t0,t1,t2,t3,t4,t5,t6,t7,t8,t9,t10,t11⟩:w7.cell? ⟨w.heap.size+1,0,none⟩=some (.int .i64 0)/\w7.cell? ⟨w.heap.size+1,1,none⟩=some (.int .i64 0)/\w7.cell? ⟨w.heap.size+1,2,none⟩=some (.int .u32 0)/\w7.cell? ⟨w.heap.size+1,3,none⟩=some (.bool false)/\w7.cell? ⟨w.heap.size+1,4,none⟩=some (.bool false)/\w7.cell? ⟨w.heap.size+1,5,none⟩=some (.bool false)/\w7.cell? ⟨w.heap.size+1,6,none⟩=some (.bool false)/\w7.cell? ⟨w.heap.size+1,7,none⟩=some (.bool false)/\w7.cell? ⟨w.heap.size+1,8,none⟩=some (.int .u8 0)/\w7.cell? ⟨w.heap.size+1,9,none⟩=some (.int .u8 0)/\w7.cell? ⟨w.heap.size+1,10,none⟩=some (.int .u32 0)/\w7.cell? ⟨w.heap.size+1,11,none⟩=some (.slice none 0 0):=⟨X7.out.cell 0,X7.out.cell 1,X7.out.cell 2,X7.out.cell 3,X7.out.cell 4,X7.out.cell 5,X7.out.cell 6,X7.out.cell 7,X7.out.cell 8,X7.out.cell 9,X7.out.cell 10,X7.out.cell 11⟩;obtain⟨fz0,fz1,fz2,fz3,fz4,fz5,fz6,fz7,fz8,fz9,fz10,fz11⟩:w7.frozen? ⟨w.heap.size+1,0,none⟩=false/\w7.frozen? ⟨w.heap.size+1,1,none⟩=false/\w7.frozen? ⟨w.heap.size+1,2,none⟩=false/\w7.frozen? ⟨w.heap.size+1,3,none⟩=false/\w7.frozen? ⟨w.heap.size+1,4,none⟩=false/\w7.frozen? ⟨w.heap.size+1,5,none⟩=false/\w7.frozen? ⟨w.heap.size+1,6,none⟩=false/\w7.frozen? ⟨w.heap.size+1,7,none⟩=false/\w7.frozen? ⟨w.heap.size+1,8,none⟩=false/\w7.frozen? ⟨w.heap.size+1,9,none⟩=false/\w7.frozen? ⟨w.heap.size+1,10,none⟩=false/\w7.frozen? ⟨w.heap.size+1,11,none⟩=false:=⟨X7.out.frozen 0,X7.out.frozen 1,X7.out.frozen 2,X7.out.frozen 3,X7.out.frozen 4,X7.out.frozen 5,X7.out.frozen 6,X7.out.frozen 7,X7.out.frozen 8,X7.out.frozen 9,X7.out.frozen 10,X7.out.frozen 11⟩;clear f1 n7))
 have kq:Kp (fun k=>k=w.heap.size+1) w7 (w7.setCells (w.heap.size+1) 0 [(.int .i64 (xn:Nat)),(.int .i64 xK),(.int .u32 xI),(.bool xX),(.bool xR),(.bool xB),(.bool xE),(.bool xS),(.int .u8 xD),(.int .u8 xV),(.int .u32 xA),(.slice a1 xl.length c1)]):=Kp.sets (F:=fun k=>k=w.heap.size+1) rfl _ _ _
 have gF:∀ g,Value.ownBlock (.slice a1 xl.length c1)=some g->w.heap.size+2<=g:=fun g e=>Nat.le_trans (by have:=SY.out;simp;omega) (F1.out.2 g e)
 have FF:=Lib.hid (show Fresh w (w7.setCells (w.heap.size+1) 0 [(.int .i64 (xn:Nat)),(.int .i64 xK),(.int .u32 xI),(.bool xX),(.bool xR),(.bool xB),(.bool xE),(.bool xS),(.int .u8 xD),(.int .u8 xV),(.int .u32 xA),(.slice a1 xl.length c1)]) (.slice a1 xl.length c1) xl from ⟨F1.out.1.keep kq (fun g e q=>by have:=gF g e;omega),fun g e=>by have:=gF g e;omega⟩)
 have NF:=Lib.hid (show Nb w (w7.setCells (w.heap.size+1) 0 [(.int .i64 (xn:Nat)),(.int .i64 xK),(.int .u32 xI),(.bool xX),(.bool xR),(.bool xB),(.bool xE),(.bool xS),(.int .u8 xD),(.int .u8 xV),(.int .u32 xA),(.slice a1 xl.length c1)]) from (NY.out.tr NB.out).trans (kq.toBelow (NY.out.tr NB.out).size (fun k e=>by omega)))
 clear kq gF
 go_wp2
 exact bodyPost_ret (v := .agg #[(.int .i64 (xn:Nat)),(.int .i64 xK),(.int .u32 xI),(.bool xX),(.bool xR),(.bool xB),(.bool xE),(.bool xS),(.int .u8 xD),(.int .u8 xV),(.int .u32 xA),(.slice a1 xl.length c1)]) (by simp[results,Tryd.results45,go_sem,t0,t1,t2,t3,t4,t5,t6,t7,t8,t9,t10,t11,fz0,fz1,fz2,fz3,fz4,fz5,fz6,fz7,fz8,fz9,fz10,fz11]) rfl ⟨⟨a1,c1,rfl,FF.out⟩,NF.out⟩
end Go.Proofs.YtdedoeeekcfkpaaDoor
