
/- A map of places met, and what neighbours among ranks are. No conditions but sizes. -/
import Derived.Test.YtkofdbccdfpllaaDoorOqR
import Derived.Test.YtkofdbccdfpllaaDoorGor
import Derived.Maps.Own
import Derived.Maps.Views
namespace Go.Proofs.YtkofdbccdfpllaaDoor
set_option linter.unusedVariables false
set_option linter.unusedSimpArgs false
open Go.RowKit Go.Maps
def Dm (rs:List Nat):DataW Unit:=Go.Maps.setOf (.lit (.bool true)) (rs.map fun p:Nat=>Lit.int .i64 (p:Int))
theorem Dm_snoc (rs:List Nat) (p:Nat):Dm (rs++[p])=(Dm rs).put (.int .i64 (p:Int)) (.lit (.bool true)):=by
 unfold Dm
 rw[List.map_append,List.map_cons,List.map_nil,Go.Maps.setOf_snoc]
theorem Dm_miss {rs:List Nat} {q:Nat} (h:q∉rs) (z:DataW Unit):(Dm rs).atKey (.int .i64 (q:Int)) z=z:=by
 apply Go.Maps.atKey_of_not_has
 rw[Dm,Go.Maps.has_setOf _ _ _ (by intro x hx;obtain⟨p,_,rfl⟩:=List.mem_map.1 hx;trivial)]
 rw[List.any_eq_false]
 intro x hx
 obtain⟨p,hp,rfl⟩:=List.mem_map.1 hx
 rw[Go.Maps.sameKey_ne (by intro he;simp only[Lit.int.injEq,true_and] at he;exact h (by rw[show q=p by omega];exact hp))]
 simp
theorem keyedInt:Keyed Tryd.prog 3:=int_keyed Tryd.underlying3
theorem keyInt (p:Nat) (h:p<=1000):keyOf Tryd.prog 3 (.int .i64 (p:Int))=some (.int .i64 (p:Int)):=keyOf_int_mk Tryd.underlying3 (by simp[Lit.wf,IntKind.min,IntKind.max,IntKind.signed,IntKind.bits];omega)
theorem plainElem_bool_inv' {P:Program} {e:TypeId} (he:P.underlying e=some .bool) {v:Value} {z:DataW Unit × List MemPlace} (h:plainElem (H:=Unit) P e v=some z):∃ x,v = .bool x/\z=(.lit (.bool x),[]):=by
 unfold plainElem at h
 rw[he] at h
 cases v<;>simp at h
 exact⟨_,rfl,h.symm⟩
theorem met_no {w:World} {B n:Nat} {rs:List Nat} {q:Nat} (h:w.ownsMap Tryd.prog 3 (plainElem (H:=Unit) Tryd.prog 4) B n (Dm rs)) (hq:q∉rs) (hq1:q<=1000) :
    (Instr.lookup 32 (.map (some B)) (.int .i64 (q:Int)) false).run Tryd.prog w = .ok (.bool false) w:=by
 obtain⟨v,ps,hrun,hv⟩:=h.lookup keyedInt Tryd.underlying32 (show (zeroValue 4).run Tryd.prog w = .ok (.bool false) w by kernel_rfl) (plainElem_bool Tryd.underlying4 false) (keyInt q hq1)
 rw[Dm_miss hq] at hv
 obtain⟨x,rfl,hx⟩:=plainElem_bool_inv' Tryd.underlying4 hv
 simp only[Prod.mk.injEq,DataW.lit.injEq,Lit.bool.injEq] at hx
 rw[hrun,<- hx.1]
theorem ownsMap_nb {w w':World} {B n:Nat} {D:DataW Unit} (h:w.ownsMap Tryd.prog 3 (plainElem (H:=Unit) Tryd.prog 4) B n D) (hb:Nb w w'):w'.ownsMap Tryd.prog 3 (plainElem (H:=Unit) Tryd.prog 4) B n D:=by
 have hl:=h.lt
 obtain⟨es,c,h1,h2,h3,h4⟩:=h
 exact⟨es,c,(hb.block B hl).trans h1,h2,h3,h4⟩
theorem rank_next {fs:List (Hd × List Nat)} (ok:allOk fs=true) {j:Nat} (hj:j+1 < fs.length) :
    (rk (keysV fs)).getD j 0 < fs.length/\(rk (keysV fs)).getD (j+1) 0 < fs.length /\
    cmpE (fs.getD ((rk (keysV fs)).getD j 0) dF).1 (fs.getD ((rk (keysV fs)).getD (j+1) 0) dF).1 (fs.getD ((rk (keysV fs)).getD j 0) dF).2 (fs.getD ((rk (keysV fs)).getD (j+1) 0) dF).2=0 /\
    (cmpV (fs.getD ((rk (keysV fs)).getD j 0) dF).1 (fs.getD ((rk (keysV fs)).getD (j+1) 0) dF).1 (fs.getD ((rk (keysV fs)).getD j 0) dF).2 (fs.getD ((rk (keysV fs)).getD (j+1) 0) dF).2 = -1 \/
     cmpV (fs.getD ((rk (keysV fs)).getD j 0) dF).1 (fs.getD ((rk (keysV fs)).getD (j+1) 0) dF).1 (fs.getD ((rk (keysV fs)).getD j 0) dF).2 (fs.getD ((rk (keysV fs)).getD (j+1) 0) dF).2=0/\(rk (keysV fs)).getD j 0<=(rk (keysV fs)).getD (j+1) 0):=by
 have hl:(rk (keysV fs)).length=fs.length:=by rw[rk_len,keysV_len]
 have e1:(rk (keysV fs)).getD j 0=(rk (keysV fs))[j]:=by simp[List.getD,show j < (rk (keysV fs)).length by omega]
 have e2:(rk (keysV fs)).getD (j+1) 0=(rk (keysV fs))[j+1]:=by simp[List.getD,show j+1 < (rk (keysV fs)).length by omega]
 have l1:=rk_lt (keysV fs) _ (List.getElem_mem (show j < (rk (keysV fs)).length by omega))
 have l2:=rk_lt (keysV fs) _ (List.getElem_mem (show j+1 < (rk (keysV fs)).length by omega))
 have hs:=List.pairwise_iff_getElem.1 (rk_sorted (keysV fs)) j (j+1) (by omega) (by omega) (by omega)
 rw[keysV_len] at l1 l2
 rw[e1,e2]
 generalize (rk (keysV fs))[j]=x at *
 generalize (rk (keysV fs))[j+1]=y at *
 have hk:∀ z,z < fs.length->(keysV fs).getD z 0=keyF (fs.getD z dF).1/\okF (fs.getD z dF).1 (fs.getD z dF).2=true:=by
  intro z hz
  have e:fs.getD z dF=fs[z]:=by simp[List.getD,hz]
  refine⟨by rw[e];simp[keysV,List.getD,hz],?_⟩
  rw[e]
  exact List.all_eq_true.1 ok _ (List.getElem_mem hz)
 obtain⟨k1,o1⟩:=hk x l1
 obtain⟨k2,o2⟩:=hk y l2
 unfold leP at hs
 simp only at hs
 rw[k1,k2] at hs
 refine⟨l1,l2,by rw[cmpE,o1,o2];rfl,?_⟩
 have e:cmpV (fs.getD x dF).1 (fs.getD y dF).1 (fs.getD x dF).2 (fs.getD y dF).2=cmpN (keyF (fs.getD x dF).1) (keyF (fs.getD y dF).1):=by rw[cmpV,o1,o2];rfl
 rw[e]
 rcases hs with h | ⟨h,h2⟩
 ·exact .inl (by rw[cmpN,if_pos h])
 ·exact .inr ⟨by rw[cmpN,if_neg (by omega),if_neg (by omega)],h2⟩
theorem rank_apart (ks:List Nat) {k:Nat} (hk:k < ks.length):(rk ks).getD k 0∉(rk ks).take k/\(rk ks).getD k 0 < ks.length/\(rk ks).take (k+1)=(rk ks).take k++[(rk ks).getD k 0]:=by
 have hl:=rk_len ks
 have e:(rk ks).getD k 0=(rk ks)[k]:=by simp[List.getD,show k < (rk ks).length by omega]
 refine⟨?_,?_,?_⟩
 ·rw[e]
  intro h
  obtain⟨i,hi,h1⟩:=List.getElem_of_mem h
  rw[List.length_take] at hi
  rw[List.getElem_take] at h1
  have:=(List.getElem_inj (rk_nodup ks)).1 h1
  omega
 ·rw[e]
  exact rk_lt ks _ (List.getElem_mem _)
 ·rw[List.take_add_one]
  simp[List.getD,show k < (rk ks).length by omega]
end Go.Proofs.YtkofdbccdfpllaaDoor
