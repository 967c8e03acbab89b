/- A region within a round of a range over a function: the walk of the plain fence carries over, whatever the order; reads ahead of one store. -/
import Derived.Test.YtgkcdmbhniipdaaG
import Derived.StillTailTactics
import Derived.OrdersIn
import Derived.TacticsIn
namespace Go.Proofs.Ytgkcdmbhniipdaa
open Go.RowKit

variable {P : Program} {n : Nat}
/-- None of the operations is a defer statement. -/
def calmOps (ops : Array Oper) : Bool := ops.all fun o => match o.op with | .defer _ => false | _ => true
theorem calm_of {ops : Array Oper} (h : calmOps ops = true) {i : Nat} {o : Oper} (ho : ops[i]? = some o) : ∀ c, o.op ≠ .defer c := by
  intro c hc
  unfold calmOps at h
  rw [Array.all_eq_true] at h
  obtain ⟨hi, he⟩ := Array.getElem?_eq_some_iff.1 ho
  have := h i hi
  rw [he, hc] at this
  cases this
theorem upon_round {o : Oper} {a : Act} {K : Act → World → Prop} {Q : Exit → Act → World → Prop} (l : Nat) : ∀ r : Result Next, o.upon P a K Q r → o.uponIn (Fence.wide.inRound l) n P a K Q r
  | .ok (.value _) _, h => h
  | .ok .skip _, h => h
  | .ok (.defer _) _, h => h
  | .ok (.enter _ _) _, h => ⟨fun hd => by simp [Fence.wide, Fence.inRound] at hd, CallsIn.inRound l (callsIn_wide.2 h)⟩
  | .ok (.row _ _) _, h => ⟨fun hd => by simp [Fence.wide, Fence.inRound] at hd, fun c cs _ => let ⟨v, w', r, s⟩ := h c cs; ⟨v, w', r, (stepsIn_wide.2 s)⟩⟩
  | .ok (.round ..) _, h => h.elim
  | .ok (.coroswitch ..) _, h => h.elim
  | .halt hl _, h => by cases hl <;> exact h
theorem op_round {o : Oper} {a : Act} {w : World} {K : Act → World → Prop} {Q : Exit → Act → World → Prop} (l : Nat) (ho : ∀ c, o.op ≠ .defer c) (h : o.wp P a w K Q) : o.wpIn (Fence.wide.inRound l) n P a w K Q :=
  ⟨fun _ _ => trivial, by
    show o.uponIn (Fence.wide.inRound l) n P a K Q ((o.semAt (some l) a.eval).run P w)
    rw [Oper.semAt_some l _ o ho]
    exact upon_round l _ h⟩
theorem opAt_round {ops : Array Oper} {i : Nat} {a : Act} {w : World} {K : Act → World → Prop} {Q : Exit → Act → World → Prop} (l : Nat) (hQ : ¬ LetsOut Q) (hc : calmOps ops = true) (h : wpOp P ops Q i K a w) : wpOpIn (Fence.wide.inRound l) n P ops Q i K a w := by
  unfold wpOp at h
  unfold wpOpIn
  split
  · rename_i ho; simp only [ho] at h; exact h
  · rename_i o ho
    simp only [ho] at h
    split
    · rename_i hw
      simp only [hw, if_true] at h
      exact op_round l (calm_of hc ho) (h.resolve_right fun h2 => hQ h2.2)
    · rename_i hw
      simp only [hw] at h
      exact ⟨fun _ _ => trivial, h⟩
theorem any_round {ops : Array Oper} {md : Region.Mode} {Q : Exit → Act → World → Prop} (l : Nat) (hQ : ¬ LetsOut Q) (hc : calmOps ops = true) : ∀ (fuel : Nat) (listed : Array Bool) (a : Act) (w : World),
    wpAny P md ops Q fuel listed a w → wpAnyIn (Fence.wide.inRound l) n P md ops Q fuel listed a w
  | 0, _, _, _, h => h
  | fuel + 1, _, _, _, h => ⟨h.1, fun i hi => wpOpIn_mono (fun a' w' h' => any_round l hQ hc fuel _ a' w' h') (opAt_round l hQ hc (h.2 i hi))⟩
/-- Reads in whatever order ahead of the operations from k on, within a round. -/
theorem round_still_tail {id l0 : Nat} {Q : Exit → Act → World → Prop} {a : Act} {w : World} {l : List Oper} (k : Nat) (hm : P.follows .mixedOrders = true) (hB : Region.lexTailB .any l.toArray k = true) (hQ : ¬ LetsOut Q) (hc : calmOps l.toArray = true)
    (h : wpStill P l.toArray { w with drawn := w.drawn + 1 } (fun a' => wpList P l.toArray Q (l.drop k) a' { w with drawn := w.drawn + 1 }) (l.take k) a) : (Code.region id l.toArray true).wpIn (Fence.wide.inRound l0) n P Q a w := by
  simp only [Region.lexTailB, Bool.and_eq_true, decide_eq_true_eq] at hB
  obtain ⟨⟨⟨⟨h1, h2⟩, h3⟩, h4⟩, h5⟩ := hB
  have hk : k < l.length := by simpa using h2
  have e1 : (l.take k).length = k := by simp; omega
  have e2 : (l.drop k).length = l.toArray.size - k := by simp
  have hin : HeadInv .any l.toArray k (Array.replicate l.toArray.size false) :=
    ⟨by simp, fun j oj _ hl => (by rw [getD_replicate_false] at hl; cases hl), fun t _ ht => getD_in (by simpa using ht) (getD_replicate_false _ _)⟩
  have hh := wpAnyL_lex (md := .any) (g := l.toArray.size - k) h1 h3 h4 h2 (l.take k) 0 _ a (fun j hj => by
    have hj' : j < k := by rw [e1] at hj; exact hj
    simp [hj']) (by simpa using e1) hin (by rw [e1]; exact h5) h
  have ht := wpAny_of_head (Q' := Q) (g := l.toArray.size - k) (fun listed a' hL => by
    have hs := wpAny_of_seq (md := .any) (Q' := Q) (l.drop k) k listed a' { w with drawn := w.drawn + 1 } (fun j => by simp [List.getElem?_drop]) (by rw [e2]; exact hL.1) hL.2
    rwa [e2] at hs) _ _ _ hh
  rw [e1, show k + (l.toArray.size - k) = l.toArray.size by omega] at ht
  exact wpIn_region_any hm (any_round l0 hQ hc _ _ _ _ ht)
end Go.Proofs.Ytgkcdmbhniipdaa
