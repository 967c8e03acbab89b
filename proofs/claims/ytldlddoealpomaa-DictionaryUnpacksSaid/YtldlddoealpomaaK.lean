/- An append of one byte that keeps the old cells; the decoder's match. -/
import Derived.Test.YtldlddoealpomaaJ
import Derived.Maps.AppendAt
namespace Go.Proofs.Ytldlddoealpomaa
open Go.RowKit Go.Lib

theorem add_at' (b k : Nat) : (⟨b, 0, none⟩ : Addr).add k = ⟨b, k, none⟩ := by unfold Addr.add; split <;> simp_all
set_option maxRecDepth 100000 in
theorem run_append_keep {w : World} (ty : TypeId) (base : Nat) (b n cap : Nat) (xs : List Value) (hown : w.ownsRow base 5 1 (.slice (some ⟨b, 0, none⟩) n cap) n xs) (a : Addr) (c : Nat) (x : Nat) (hx : w.cell? a = some (byteV x)) (hn : n ≤ 1000000000000) (hbase : base ≤ w.heap.size) :
    ∃ v' w', (Builtin.append_ #[22, 22] ty #[.slice (some ⟨b, 0, none⟩) n cap, .slice (some a) 1 c]).run Try.prog w = .ok v' w' ∧ w'.ownsRow base 5 1 v' (n + 1) (xs ++ [byteV x]) ∧ w.grownBy w' (some b) ∧ ∀ j, j < n → w'.cell? ⟨b, j, none⟩ = w.cell? ⟨b, j, none⟩ := by
  obtain ⟨i0, hi, hz0, hz1, hz2⟩ := info_parts info5
  have hnews : ∀ j u, [byteV x][j]? = some u → w.cell? (a.add j) = some u := fun j u hu => by
    rcases j with _ | j
    · have e : a.add 0 = a := by obtain ⟨p, q, r⟩ := a; unfold Addr.add; split <;> simp_all
      rw [e, hx]; exact hu
    · simp at hu
  have hone : ∀ u ∈ [byteV x], u.oneCell' = true := fun u hu => by rw [List.mem_singleton] at hu; rw [hu]; rfl
  obtain ⟨v', w', hr, h1, h2, _, h4⟩ := run_append_own_at (P := Try.prog) w base 22 ty 5 i0 _ 1 1 Try.underlying22 hi hz0 hz1 hz2 rfl (by decide) (.slice (some ⟨b, 0, none⟩) n cap) n xs hown a 1 c [byteV x] (by simp) hnews hone (by unfold maxLen; omega) (by omega) hbase
  refine ⟨v', w', hr, h1, h2, fun j hj => ?_⟩
  have hlx := hown.1
  rcases hown.2 with ⟨e, _⟩ | ⟨g, cap', cur, e, hbg, hg, hnc, hcm, hcs, htake⟩
  · cases e
  · injection e with e1 _ e3
    injection e1 with e1
    injection e1 with e1
    subst e1 e3
    by_cases hroom : n + 1 ≤ cap
    · have hr2 := run_append_room (P := Try.prog) w 22 ty 5 i0 Try.underlying22 hi b n cap cur hg a 1 c [byteV x] (by rw [hz1]; rfl) hnews hone hroom (by rw [hz1, hcs]; simp; omega)
      rw [hr2] at hr
      injection hr with hr _
      subst hr
      have e2 : (⟨b, 0, none⟩ : Addr).add j = ⟨b, j, none⟩ := add_at' b j
      have hj2 : (xs ++ [byteV x])[j]? = xs[j]? := List.getElem?_append_left (by omega)
      obtain ⟨u, hu⟩ : ∃ u, xs[j]? = some u := ⟨xs[j]'(by omega), List.getElem?_eq_getElem _⟩
      have k1 := h1.cells (g := b) rfl j u (hj2.trans hu)
      have k2 := hown.cells (g := b) rfl j u hu
      rw [e2] at k1 k2
      rw [k1, k2]
    · have holds : ∀ j u, xs[j]? = some u → w.cell? ((⟨b, 0, none⟩ : Addr).add j) = some u := hown.cells (g := b) rfl
      have hr2 := run_append_grow (P := Try.prog) w 22 ty 5 i0 _ Try.underlying22 hi hz0 ⟨b, 0, none⟩ n cap xs (by rw [hz1]; exact hlx) holds a 1 c [byteV x] (by rw [hz1]; rfl) hnews (by omega) (by omega) (growslice_fits (by omega) (by rw [hz2]; omega))
      rw [hr2] at hr
      injection hr with _ hr
      subst hr
      exact World.cell?_of_block (heap_alloc_old w.drew _ (box_lt hg))
theorem step_append_one {ops : Array Oper} {o : Oper} {a : Act} {w : World} {K : Act → World → Prop} {Q : Exit → Act → World → Prop} {E : Prop} (hg : o.guard = none) (s x : Operand) (hop : o.op = Op.call { callee := Callee.builtin Builtin.append, args := #[s, x], argTypes := #[22, 22] })
    (base b n cap : Nat) (xs : List Value) (hs : a.eval s = .slice (some ⟨b, 0, none⟩) n cap) (hown : w.ownsRow base 5 1 (.slice (some ⟨b, 0, none⟩) n cap) n xs) (ad : Addr) (c y : Nat) (hx : a.eval x = .slice (some ad) 1 c) (hy : w.cell? ad = some (byteV y)) (hn : n ≤ 1000000000000) (hbase : base ≤ w.heap.size)
    (hK : ∀ v' w', w'.ownsRow base 5 1 v' (n + 1) (xs ++ [byteV y]) → w.grownBy w' (some b) → (∀ j, j < n → w'.cell? ⟨b, j, none⟩ = w.cell? ⟨b, j, none⟩) → K (a.put o.dst v') w') :
    if Region.wanted o (yielded ops a.tmps) = true then Oper.wp Try.prog o a w K Q else E := by
  have hw : Region.wanted o (yielded ops a.tmps) = true := by simp [Region.wanted, hg]
  rw [if_pos hw]
  obtain ⟨v', w', hrun, r1, r2, r3⟩ := run_append_keep o.type base b n cap xs hown ad c y hy hn hbase
  unfold Oper.wp
  simp [execOp, hop, resolve, invoke, builtin, hs, hx, hrun, Result.andThen]
  exact hK v' w' r1 r2 r3
end Go.Proofs.Ytldlddoealpomaa
