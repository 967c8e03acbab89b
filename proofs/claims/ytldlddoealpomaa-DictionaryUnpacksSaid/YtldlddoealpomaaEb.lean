/- What the encoder's outputs change; the token of a match. -/
import Derived.Test.YtldlddoealpomaaEa
namespace Go.Proofs.Ytldlddoealpomaa
open Go.RowKit Go.Lib

/-- Of what was there, the box g and the row that v owns may have changed; v' owns that row or a newer one. -/
structure Chg (g : Nat) (v v' : Value) (w w' : World) : Prop where
  low : Below 0 w w'
  block : ∀ k, k < w.heap.size → k ≠ g → some k ≠ v.ownBlock → w'.heap[k]? = w.heap[k]?
  own : v'.ownBlock = v.ownBlock ∨ ∃ k, w.heap.size ≤ k ∧ v'.ownBlock = some k
theorem Chg.refl (g : Nat) (v : Value) (w : World) : Chg g v v w w := ⟨Below.refl _ _, fun _ _ _ _ => rfl, .inl rfl⟩
theorem Chg.trans {g : Nat} {u v x : Value} {a b c : World} (h : Chg g u v a b) (k : Chg g v x b c) : Chg g u x a c := by
  refine ⟨h.low.trans k.low, fun i hi hg hn => (k.block i (Nat.lt_of_lt_of_le hi h.low.size) hg (fun e => ?_)).trans (h.block i hi hg hn), ?_⟩
  · rcases h.own with ho | ⟨j, hj, ho⟩
    · exact hn (e.trans ho)
    · rw [ho] at e; injection e with e; omega
  · rcases k.own with ho | ⟨j, hj, ho⟩
    · rcases h.own with ho2 | ⟨j, hj, ho2⟩
      · exact .inl (ho.trans ho2)
      · exact .inr ⟨j, hj, ho.trans ho2⟩
    · exact .inr ⟨j, Nat.le_trans h.low.size hj, ho⟩
theorem Chg.below {g : Nat} {v : Value} {a b : World} (h : Below a.heap.size a b) : Chg g v v a b := ⟨h.mono (Nat.zero_le _), fun k hk _ _ => h.block k hk, .inl rfl⟩
theorem Chg.grown {g : Nat} {v v' : Value} {a b : World} (hg : a.grownBy b v.ownBlock) (hat : v'.ownBlock = v.ownBlock ∨ v'.ownBlock = some a.heap.size) : Chg g v v' a b :=
  ⟨(Below.refl 0 a).grown hg (Nat.zero_le _) (fun _ _ => Nat.zero_le _), fun k hk _ hn => hg.block k hk hn, hat.imp id fun h => ⟨_, Nat.le_refl _, h⟩⟩
theorem Chg.set {g : Nat} {v v' : Value} {a b : World} (h : Chg g v v' a b) (i : Nat) (x : Value) : Chg g v v' a (b.setCell ⟨g, i, none⟩ x) :=
  ⟨h.low.setCell (Nat.zero_le _) x, fun k hk hg hn => (Below.heap_setCell _ _ _ _ hg).trans (h.block k hk hg hn), h.own⟩
set_option maxRecDepth 100000 in
theorem step_append_byt_at {ops : Array Oper} {o : Oper} {a : Act} {w : World} {K : Act → World → Prop} {Q : Exit → Act → World → Prop} {E : Prop} (hgd : o.guard = none) (s x : Operand) (ho : o.op = .call { callee := .builtin .append, args := #[s, x], argTypes := #[22, 22] })
    (base : Nat) (v : Value) (k : Nat) (xs : List Value) (hs : a.eval s = v) (hown : w.ownsRow base 5 1 v k xs) (l : List Nat) (ad : Addr) (m c : Nat) (hx : a.eval x = .slice (some ad) m c) (hsrc : Byt w (.slice (some ad) m c) l) (hk : k + l.length ≤ 1000000000000) (hbase : base ≤ w.heap.size)
    (h : ∀ v' w', w'.ownsRow base 5 1 v' (k + l.length) (xs ++ l.map byteV) → w.grownBy w' v.ownBlock → (v'.ownBlock = v.ownBlock ∨ v'.ownBlock = some w.heap.size) → K (a.put o.dst v') w') :
    if Region.wanted o (yielded ops a.tmps) = true then Oper.wp Try.prog o a w K Q else E := by
  obtain ⟨i0, hi, hz0, hz1, hz2⟩ := info_parts info5
  obtain ⟨h8, A, cap, hv, hcap, hcm, b, off, hA, hc⟩ := hsrc
  injection hv with e1 e2 e3
  subst e1 e2 e3
  have hw : Region.wanted o (yielded ops a.tmps) = true := by simp [Region.wanted, hgd]
  rw [if_pos hw]
  have hnews : ∀ j u, (l.map byteV)[j]? = some u → w.cell? (ad.add j) = some u := fun j u hu => by
    rw [List.getElem?_map] at hu
    obtain ⟨z, hz, rfl⟩ := Option.map_eq_some_iff.1 hu
    have hj := (List.getElem?_eq_some_iff.1 hz).1
    have hA1 := (hA (by omega)).1
    injection hA1 with hA1
    subst hA1
    rw [show (⟨b, off, none⟩ : Addr).add j = ⟨b, off + j, none⟩ by unfold Addr.add; split <;> simp_all]
    exact hc j z hz
  obtain ⟨v', w', hrun, r1, r2, _, r4⟩ := run_append_own_at (P := Try.prog) w base 22 o.type 5 i0 _ 1 1 Try.underlying22 hi hz0 hz1 hz2 rfl (by decide) v k xs hown ad l.length c (l.map byteV) (by simp) hnews (byteV_one l) (by unfold maxLen; omega) (by omega) hbase
  unfold Oper.wp
  simp [execOp, ho, resolve, invoke, builtin, hs, hx, hrun, Result.andThen]
  exact h v' w' r1 r2 r4
/-- The encoder's box: its tokens, and what else it holds. -/
def Enc (w : World) (g base : Nat) (vt vx vm : Value) (l : List Nat) : Prop := w.heap[g]? = some (.cells #[vt, vx, vm] 51) ∧ w.ownsRow base 5 1 vt l.length (l.map byteV) ∧ base ≤ w.heap.size
theorem enc_not {w : World} {g base n : Nat} {a : Array Value} {v : Value} {xs : List Value} (hb : w.heap[g]? = some (.cells a 51)) (ho : w.ownsRow base 5 1 v n xs) : v.ownBlock ≠ some g := by
  rcases ho.2 with ⟨rfl, _⟩ | ⟨k, cap, cur, rfl, _, hgb, _⟩
  · simp [Value.ownBlock]
  · intro e
    obtain rfl : k = g := by simpa [Value.ownBlock] using e
    have := hb.symm.trans hgb
    simp at this
theorem enc_grown {w w2 : World} {g base n : Nat} {a : Array Value} {v : Value} {xs : List Value} (hb : w.heap[g]? = some (.cells a 51)) (ho : w.ownsRow base 5 1 v n xs) (hg : w.grownBy w2 v.ownBlock) : w2.heap[g]? = some (.cells a 51) :=
  keep_grown (T := 51) ho (by decide) hg g a hb
def EncQ (g base : Nat) (vt vx vm : Value) (l : List Nat) (w : World) (e : Ending) (w' : World) : Prop := (∃ r, e = .returned r) ∧ ∃ v', Enc w' g base v' vx vm l ∧ Chg g vt v' w w'
end Go.Proofs.Ytldlddoealpomaa
