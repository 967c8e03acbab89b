/- Operations: a slice from a place on, a row of one's own, an append of operations in a drawn region. -/
import Derived.Test.YtnocgfhcamnjdaaAp
namespace Go.Proofs.Ytnocgfhcamnjdaa
open Go.RowKit Go.Lib
theorem run_slice32f (A : Option Addr) (n c lo : Nat) (h1 : lo ≤ n) (W : World) : (Instr.slice 24 (.slice A n c) (some (.int .i64 (lo : Int))) none none).run Try.prog W = .ok (.slice (fromN 3 A c lo) (n - lo) (c - lo)) W := by
  simp [Instr.slice, run_underlying Try.underlying24, Instr.sliceBounds, Sem.run_bind, run_sliceBound_if, fromN, h1]
theorem ops_drop {w : World} {A : Option Addr} {n c : Nat} {l : List OpT} (h : OpsA w (.slice A n c) l) {k : Nat} (hk : k ≤ n) : OpsA w (.slice (fromN 3 A c k) (n - k) (c - k)) (l.drop k) := by
  have hl : (l.map cOp).length = n := by
    obtain ⟨A', c', e, _⟩ := h.2
    injection e with _ e2 _
    exact e2.symm
  refine ⟨fun x hx => h.1 x (List.mem_of_mem_drop hx), ?_⟩
  have := arr_mid h.2 k n hk (by omega)
  rwa [List.take_of_length_le (by rw [List.length_drop]; omega), ← List.map_drop] at this
theorem nil_take {A : Option Addr} {n c k : Nat} (h : NilOk (.slice A n c)) : NilOk (.slice A k c) := fun a b e => by
  injection e with e1 e2 e3
  subst e1 e3
  exact h _ _ rfl
theorem nil_drop {A : Option Addr} {n c k m : Nat} (h : NilOk (.slice A n c)) : NilOk (.slice (fromN 3 A c k) m (c - k)) := fun a b e => by
  injection e with e1 e2 e3
  rcases A with _ | ad
  · have := h _ _ rfl
    omega
  · unfold fromN at e1
    split at e1 <;> cases e1
theorem info27 : (Try.prog.info? 75).map (fun i => (i.zero, i.size, i.bytes)) = some (some (.agg #[.int .i64 0, .int .i64 0, .slice none 0 0]), 3, 40) := by kernel_rfl
theorem own_empty27 (w : World) : (w.alloc (.cells #[] 75)).ownsRow w.heap.size 75 3 (.slice (some ⟨w.heap.size, 0, none⟩) 0 0) 0 [] :=
  ⟨rfl, .inr ⟨w.heap.size, 0, #[], rfl, Nat.le_refl _, heap_alloc_new w _, Nat.le_refl _, by unfold maxLen; omega, rfl, rfl⟩⟩
theorem op_ones {w : World} {l : List OpT} (h : ∀ x ∈ l, Sec w x.d x.l ∧ NilOk x.d ∧ R64 x.k ∧ R64 x.a) : ∀ u ∈ (l.map cOp).flatten, u.oneCell' = true := fun u hu => by
  obtain ⟨r, hr, hu⟩ := List.mem_flatten.1 hu
  obtain ⟨x, hx, rfl⟩ := List.mem_map.1 hr
  obtain ⟨A, c, e⟩ := sec_form (h x hx).1
  unfold cOp at hu
  rw [e] at hu
  simp only [List.mem_cons, List.not_mem_nil, or_false] at hu
  rcases hu with rfl | rfl | rfl <;> rfl
theorem ops_flatlen (l : List OpT) : (l.map cOp).flatten.length = l.length * 3 := by
  induction l with
  | nil => rfl
  | cons x r ih => rw [List.map_cons, List.flatten_cons, List.length_append, ih, List.length_cons]; unfold cOp; simp; omega
theorem ops_cells {w : World} {ad : Addr} {n c : Nat} {l : List OpT} (h : OpsA w (.slice (some ad) n c) l) : ∀ j u, (l.map cOp).flatten[j]? = some u → w.cell? (ad.add j) = some u := fun j u hu => by
  obtain ⟨A', c', e, _, _, b, off, hA, hc⟩ := h.2
  injection e with e1 e2 e3
  rw [List.length_map] at hA
  have hlt := (List.getElem?_eq_some_iff.1 hu).1
  rw [ops_flatlen] at hlt
  have hp : 0 < l.length := by omega
  have hA1 := (hA hp).1
  rw [← e1] at hA1
  injection hA1 with hA1
  subst hA1
  have hi : j / 3 < l.length := by omega
  have hg := flat_getG (rows := l.map cOp) (st := 3) (i := j / 3) (j := j % 3) (fun r hr => by obtain ⟨s, _, rfl⟩ := List.mem_map.1 hr; rfl) (List.getElem?_eq_getElem (by rw [List.length_map]; exact hi)) (Nat.mod_lt _ (by omega))
  rw [show j / 3 * 3 + j % 3 = j by omega, hu] at hg
  have := hc (j / 3) _ (List.getElem?_eq_getElem (by rw [List.length_map]; exact hi)) (j % 3) u hg.symm
  rw [add_at]
  rwa [show off + j / 3 * 3 + j % 3 = off + j by omega] at this
theorem ops_none {w : World} {n c : Nat} {l : List OpT} (h : OpsA w (.slice none n c) l) : l = [] := by
  obtain ⟨A', c', e, _, _, b, off, hA, _⟩ := h.2
  injection e with e1 e2 e3
  rw [List.length_map] at hA
  rcases l with _ | ⟨x, r⟩
  · rfl
  · have := (hA (by simp)).1
    rw [← e1] at this
    cases this
/-- An append of operations to a row of one's own. -/
theorem step_append_ops {ops : Array Oper} {o : Oper} {a : Act} {w : World} {K : Act → World → Prop} {Q : Exit → Act → World → Prop} {E : Prop}
    (hg : o.guard = none) (s x : Operand) (hop : o.op = Op.call { callee := Callee.builtin Builtin.append, args := #[s, x], argTypes := #[24, 24] })
    (base : Nat) (v : Value) (n : Nat) (olds : List Value) (hs : a.eval s = v) (hown : w.ownsRow base 75 3 v n olds) (l : List OpT) (u : Value) (hx : a.eval x = u) (hsrc : OpsA w u l) (hnil : NilOk u) (hk : n + l.length ≤ 1000000) (hbase : base ≤ w.heap.size)
    (hK : ∀ v' w', w'.ownsRow base 75 3 v' (n + l.length) (olds ++ (l.map cOp).flatten) → w.grownBy w' v.ownBlock → K (a.put o.dst v') w') :
    if Region.wanted o (yielded ops a.tmps) = true then Oper.wp Try.prog o a w K Q else E := by
  obtain ⟨i0, hi, hz0, hz1, hz2⟩ := info_parts info27
  obtain ⟨A, cap, rfl⟩ := ops_form hsrc
  rcases A with _ | ad
  · have hl := ops_none hsrc
    subst hl
    have hc0 := hnil _ _ rfl
    subst hc0
    have hw : Region.wanted o (yielded ops a.tmps) = true := by simp [Region.wanted, hg]
    rw [if_pos hw]
    have hrun := run_append_owned_none (P := Try.prog) (w := w) base 24 o.type 75 i0 3 Try.underlying24 hi v n olds hown
    unfold Oper.wp
    simp [execOp, hop, resolve, invoke, builtin, hs, hx, hrun, Result.andThen]
    exact hK v w (by simpa using hown) (World.grownBy.refl w _)
  · exact step_append_own hg s x 24 hop base 75 i0 _ 3 40 Try.underlying24 hi hz0 hz1 hz2 rfl (by decide) v n olds hs hown ad l.length cap _ hx (ops_flatlen l) (ops_cells hsrc) (op_ones hsrc.1) (by unfold maxLen; omega) (by omega) hbase hK
theorem ops_of_own {w : World} {B n : Nat} {v : Value} {l : List OpT} (h : w.ownsRow B 75 3 v n (l.map cOp).flatten) (hn : l.length = n) (hr : ∀ x ∈ l, Sec w x.d x.l ∧ NilOk x.d ∧ R64 x.k ∧ R64 x.a) : OpsA w v l :=
  ⟨hr, arr_of_own h (by rw [List.length_map]; exact hn) (fun r hr => by obtain ⟨s, _, rfl⟩ := List.mem_map.1 hr; rfl)⟩
end Go.Proofs.Ytnocgfhcamnjdaa
