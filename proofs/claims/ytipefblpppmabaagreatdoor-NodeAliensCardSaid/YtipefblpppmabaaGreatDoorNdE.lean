
/- Any number of nodes side by side in memory: a call of one leaves the others (layers 12, 13). No program's own parts but the contracts'. No conditions. -/
import Derived.Test.YtipefblpppmabaaGreatDoorGp
namespace Go.Proofs.YtipefblpppmabaaGreatDoor
set_option linter.unusedVariables false
set_option linter.unusedSimpArgs false
open Go.RowKit
structure NodesF (w w':World) (l:List (Value × Nd)) (F:Nat->Nat->Prop):Prop where
 has:∀ i v n,l[i]? = some (v,n)->NodeAt w' v n (F i)
 new:∀ i k,i < l.length->F i k->w.heap.size<=k
 dis:∀ i j,i < l.length->j < l.length->i≠j->∀ k,F i k->¬F j k
 nb:Nb w w'
theorem NodesF.lt {w w':World} {l:List (Value × Nd)} {F:Nat->Nat->Prop} (h:NodesF w w' l F) {j:Nat} (hj:j < l.length):∀ k,F j k->k < w'.heap.size :=
 node_lt (h.has j l[j].1 l[j].2 (by simp[hj]))
theorem NodesF.keep {w w1 w2:World} {l:List (Value × Nd)} {F:Nat->Nat->Prop} (h:NodesF w w1 l F) (hb:Nb w1 w2):NodesF w w2 l F :=
 ⟨fun i v n e=>node_keep (h.has i v n e) (Kp.ofNb (F:=fun _=>False) hb) (by simp),h.new,h.dis,h.nb.tr hb⟩
theorem NodesF.out {w w1:World} {l:List (Value × Nd)} {F:Nat->Nat->Prop} {F':Nat->Prop} (h:NodesF w w1 l F) {i j:Nat} (hi:i < l.length) (hj:j < l.length) (hij:i≠j) (g3:∀ k,F' k->F i k\/w1.heap.size<=k):∀ k,F' k\/w1.heap.size<=k->¬F j k:=fun k hk hf=>by
 have h1:=h.lt hj k hf
 rcases hk with hk | hk
 ·rcases g3 k hk with e | e
  ·exact h.dis i j hi hj hij k e hf
  ·omega
 ·omega
theorem NodesF.turn {w w1 w2:World} {l:List (Value × Nd)} {F:Nat->Nat->Prop} {F':Nat->Prop} {v:Value} {n m:Nd} (h:NodesF w w1 l F) (i:Nat) (hi:l[i]? = some (v,n)) (g1:NodeAt w2 v m F') (g2:Kp (F i) w1 w2) (g3:∀ k,F' k->F i k\/w1.heap.size<=k):NodesF w w2 (l.set i (v,m)) (fun j=>if j=i then F' else F j):=by
 have hil:i < l.length:=by
  by_cases hl:i < l.length
  ·exact hl
  ·rw[List.getElem?_eq_none (by omega)] at hi
   cases hi
 refine⟨fun j u k e => ?_,fun j k hj hk => ?_,fun a b ha hb hab k hk hf => ?_,h.nb.trans (g2.toBelow h.nb.size (fun k hk=>h.new i k hil hk))⟩
 ·by_cases hji:j=i
  ·subst hji
   rw[List.getElem?_set_self hil] at e
   cases e
   simp only[if_pos]
   exact g1
  ·rw[List.getElem?_set_ne (fun q=>hji q.symm)] at e
   have hjl:j < l.length:=by
    by_cases hl:j < l.length
    ·exact hl
    ·rw[List.getElem?_eq_none (by omega)] at e
     cases e
   rw[if_neg hji]
   exact node_keep (h.has j u k e) g2 (fun x hx hy=>h.dis j i hjl hil hji x hx hy)
 ·rw[List.length_set] at hj
  by_cases hji:j=i
  ·rw[if_pos hji] at hk
   rcases g3 k hk with e | e
   ·exact h.new i k hil e
   ·exact Nat.le_trans h.nb.size e
  ·rw[if_neg hji] at hk
   exact h.new j k hj hk
 ·rw[List.length_set] at ha hb
  by_cases ha1:a=i
  ·rw[if_pos ha1] at hk
   rw[if_neg (fun q=>hab (ha1.trans q.symm))] at hf
   exact h.out hil hb (fun q=>hab (ha1.trans q)) g3 k (.inl hk) hf
  ·rw[if_neg ha1] at hk
   by_cases hb1:b=i
   ·rw[if_pos hb1] at hf
    exact h.out hil ha (fun q=>ha1 q.symm) g3 k (.inl hf) hk
   ·rw[if_neg hb1] at hf
    exact h.dis a b ha hb hab k hk hf
theorem NodesF.push {w w1 w2:World} {l:List (Value × Nd)} {F:Nat->Nat->Prop} {G:Nat->Prop} {v:Value} {n:Nd} (h:NodesF w w1 l F) (g1:NodeAt w2 v n G) (g2:∀ k,G k->w1.heap.size<=k) (g3:Nb w1 w2):NodesF w w2 (l++[(v,n)]) (fun j=>if j=l.length then G else F j):=by
 have hk2:=h.keep g3
 refine⟨fun j u k e => ?_,fun j k hj hk => ?_,fun a b ha hb hab k hk hf => ?_,h.nb.tr g3⟩
 ·by_cases hj:j=l.length
  ·subst hj
   rw[List.getElem?_append_right (Nat.le_refl _),Nat.sub_self] at e
   cases e
   simp only[if_pos]
   exact g1
  ·rw[if_neg hj]
   by_cases hl:j < l.length
   ·rw[List.getElem?_append_left hl] at e
    exact hk2.has j u k e
   ·rw[List.getElem?_eq_none (by simp;omega)] at e
    cases e
 ·rw[List.length_append,List.length_singleton] at hj
  by_cases hj2:j=l.length
  ·rw[if_pos hj2] at hk
   exact Nat.le_trans h.nb.size (g2 k hk)
  ·rw[if_neg hj2] at hk
   exact h.new j k (by omega) hk
 ·rw[List.length_append,List.length_singleton] at ha hb
  by_cases ha1:a=l.length
  ·rw[if_pos ha1] at hk
   rw[if_neg (by omega)] at hf
   have:=h.lt (by omega) k hf
   have:=g2 k hk
   omega
  ·rw[if_neg ha1] at hk
   by_cases hb1:b=l.length
   ·rw[if_pos hb1] at hf
    have:=h.lt (by omega) k hk
    have:=g2 k hf
    omega
   ·rw[if_neg hb1] at hf
    exact h.dis a b (by omega) (by omega) hab k hk hf
def Nodes (w w':World) (l:List (Value × Nd)):Prop:=∃ F,NodesF w w' l F
theorem Nodes.nil (w w':World) (h:Nb w w'):Nodes w w' []:=⟨fun _ _=>False,⟨fun _ _ _ e=>by simp at e,fun _ _ hi=>by simp at hi,fun _ _ hi=>by simp at hi,h⟩⟩
theorem Nodes.keep {w w1 w2:World} {l:List (Value × Nd)} (h:Nodes w w1 l) (hb:Nb w1 w2):Nodes w w2 l:=h.elim fun F h=>⟨F,h.keep hb⟩
theorem Nodes.nb {w w1:World} {l:List (Value × Nd)} (h:Nodes w w1 l):Nb w w1:=h.elim fun _ h=>h.nb
theorem Nodes.add {w w1 w2:World} {l:List (Value × Nd)} {v:Value} {n:Nd} (h:Nodes w w1 l) (g:NodeN w1 w2 v n):Nodes w w2 (l++[(v,n)]):=by
 obtain⟨F,h⟩:=h
 obtain⟨G,g1,g2,g3⟩:=g
 exact⟨_,h.push g1 g2 g3⟩
end Go.Proofs.YtipefblpppmabaaGreatDoor
