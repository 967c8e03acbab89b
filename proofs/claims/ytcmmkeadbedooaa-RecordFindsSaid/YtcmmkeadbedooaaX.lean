/- Sectors appended; what the laws share. -/
import Derived.Test.YtcmmkeadbedooaaU
namespace Go.Proofs.Ytcmmkeadbedooaa
open Go.RowKit Go.Lib

theorem flat_split {α : Type} {st : Nat} {rows : List (List α)} (h : ∀ r ∈ rows, r.length = st) : ∀ {k : Nat} {u : α}, rows.flatten[k]? = some u → ∃ i j r, rows[i]? = some r ∧ r[j]? = some u ∧ k = i * st + j := by
  induction rows with
  | nil => intro k u hk; simp at hk
  | cons t rows ih =>
    intro k u hk
    have ht := h t (List.mem_cons_self ..)
    rw [List.flatten_cons] at hk
    rcases Nat.lt_or_ge k t.length with hl | hl
    · rw [List.getElem?_append_left hl] at hk
      exact ⟨0, k, t, rfl, hk, by omega⟩
    · rw [List.getElem?_append_right hl] at hk
      obtain ⟨i, j, r, h1, h2, h3⟩ := ih (fun u hu => h u (List.mem_cons_of_mem _ hu)) hk
      exact ⟨i + 1, j, r, by simpa using h1, h2, by rw [Nat.succ_mul]; omega⟩
theorem secs_rows {l : List Sect} (h : Secs l) : ∀ r ∈ l.map cSec, r.length = 8 := fun r hr => by
  obtain ⟨s, hs, rfl⟩ := List.mem_map.1 hr
  unfold cSec
  rw [List.length_map]
  exact (h s hs).1
theorem arr_at1 {w : World} {A : Option Addr} {n c st : Nat} {rows : List (List Value)} (h : Arr w (.slice A n c) st rows) (hp : 0 < rows.length) : ∃ b off, A = some ⟨b, off, none⟩ ∧ b < w.heap.size ∧ ∀ (i : Nat) (r : List Value), rows[i]? = some r → ∀ (j : Nat) (u : Value), r[j]? = some u → w.cell? ⟨b, off + i * st + j, none⟩ = some u := by
  obtain ⟨A', c', e, h1, h2, b, off, hA, hc⟩ := h
  injection e with e1 e2 e3
  subst e1
  exact ⟨b, off, (hA hp).1, (hA hp).2, hc⟩
theorem sec_cells {w : World} {A : Option Addr} {n c : Nat} {l : List Sect} (h : Sec w (.slice A n c) l) (hp : 0 < l.length) : ∃ b off, A = some ⟨b, off, none⟩ ∧ b < w.heap.size ∧ ∀ (k : Nat) (u : Value), (l.map cSec).flatten[k]? = some u → w.cell? ⟨b, off + k, none⟩ = some u := by
  obtain ⟨b, off, hA, hb, hc⟩ := arr_at1 h.2 (by rw [List.length_map]; exact hp)
  refine ⟨b, off, hA, hb, fun k u hk => ?_⟩
  obtain ⟨i, j, r, h1, h2, rfl⟩ := flat_split (secs_rows h.1) hk
  rw [← Nat.add_assoc]
  exact hc i r h1 j u h2
theorem sec_none {w : World} {n c : Nat} {l : List Sect} (h : Sec w (.slice none n c) l) : l = [] := by
  rcases Nat.eq_zero_or_pos l.length with h0 | h0
  · exact List.eq_nil_of_length_eq_zero h0
  · obtain ⟨b, off, hA, _⟩ := sec_cells h h0
    cases hA
set_option maxRecDepth 100000 in
theorem append_sec {ops : Array Oper} {rest : List Oper} {o : Oper} {a : Act} {w : World} {Q : Exit → Act → World → Prop} (hgd : o.guard = none) (s x : Operand) (ho : o.op = .call { callee := .builtin .append, args := #[s, x], argTypes := #[28, 28] })
    (base : Nat) (v : Value) (n : Nat) (olds : List Value) (hs : a.eval s = v) (hown : w.ownsRow base 52 8 v n olds) (l : List Sect) (u : Value) (hx : a.eval x = u) (hsrc : Sec w u l) (hnil : NilOk u) (hk : n + l.length ≤ 1000000000) (hbase : base ≤ w.heap.size)
    (h : ∀ v' w', w'.ownsRow base 52 8 v' (n + l.length) (olds ++ (l.map cSec).flatten) → w.grownBy w' v.ownBlock → wpList Try.prog ops Q rest (a.put o.dst v') w') : wpList Try.prog ops Q (o :: rest) a w := by
  obtain ⟨i0, hi, hz0, hz1, hz2⟩ := info_parts info41
  obtain ⟨A, cap, rfl⟩ := sec_form hsrc
  rcases A with _ | ad
  · have hl := sec_none hsrc
    subst hl
    have hc0 : cap = 0 := hnil _ _ rfl
    subst hc0
    refine wpList_append_own_none hgd s x 28 ho base 52 i0 8 Try.underlying28 hi v n olds hs hown hx ?_
    exact h v w (by simpa using hown) (World.grownBy.refl w _)
  · refine wpList_append_own w hgd s x 28 ho base 52 i0 _ 8 8 Try.underlying28 hi hz0 hz1 hz2 rfl (by decide) v n olds hs hown ad l.length cap (l.map cSec).flatten hx (by rw [flat_cells hsrc.1]; omega) ?_ (cells_one l) (by unfold maxLen; omega) (by omega) hbase ?_
    · intro j u hu
      have hp : 0 < l.length := by
        rcases Nat.eq_zero_or_pos l.length with h0 | h0
        · rw [List.eq_nil_of_length_eq_zero h0] at hu; simp at hu
        · exact h0
      obtain ⟨b, off, hA, _, hc⟩ := sec_cells hsrc hp
      injection hA with hA
      subst hA
      rw [show (⟨b, off, none⟩ : Addr).add j = ⟨b, off + j, none⟩ by unfold Addr.add; split <;> simp_all]
      exact hc j u hu
    · exact fun v' w' h1 h2 _ => h v' w' h1 h2
theorem own_empty52 (w : World) : (w.alloc (.cells #[] 52)).ownsRow w.heap.size 52 8 (.slice (some ⟨w.heap.size, 0, none⟩) 0 0) 0 [] :=
  ⟨rfl, .inr ⟨w.heap.size, 0, #[], rfl, Nat.le_refl _, heap_alloc_new w _, Nat.le_refl _, by unfold maxLen; omega, rfl, rfl⟩⟩
theorem below_ownE {B : Nat} {W w w' : World} {n E st : Nat} {v : Value} {xs : List Value} {base : Nat} (h : Below B W w) (hw : w.ownsRow base E st v n xs) (hg : w.grownBy w' v.ownBlock) (hB : B ≤ w.heap.size) (hb : B ≤ base) : Below B W w' :=
  h.grown hg hB (fun k e => by have := (hw.lt k e).1; omega)
theorem own_formE {w : World} {base E st n : Nat} {v : Value} {xs : List Value} (h : w.ownsRow base E st v n xs) : ∃ A cap, v = .slice A n cap := by
  rcases h.2 with ⟨rfl, rfl⟩ | ⟨g, cap, cur, rfl, _⟩
  · exact ⟨none, 0, rfl⟩
  · exact ⟨_, _, rfl⟩
theorem own_nilOkE {w : World} {base E st n : Nat} {v : Value} {xs : List Value} (h : w.ownsRow base E st v n xs) : NilOk v := by
  rcases h.2 with ⟨rfl, _⟩ | ⟨g, cap, cur, rfl, _⟩
  · exact nilOk_nil
  · exact nilOk_some _ _ _
theorem fk_ok (k : Int) : 0 < fk k ∧ fk k < 256 := by unfold fk; omega
theorem fq_ok (q : Int) : 0 < fq q ∧ fq q ≤ 1000000 := by unfold fq; omega
theorem encS_ok {k q : Nat} {p : List Nat} (hk : 0 < k) (hk2 : k < 256) (hq : 0 < q) (hq2 : q < 4294967296) (hp : p.length ≤ 4096) : encS (k : Int) (q : Int) p = .ok (encR k q p) := by
  unfold encS
  rw [if_neg (by omega), if_neg (by omega)]
  rfl
theorem encS_fit (k q : Int) {p : List Nat} (hp : p.length ≤ 4096) : encS (fk k : Nat) (fq q : Nat) p = .ok (encR (fk k) (fq q) p) := by
  have := fk_ok k; have := fq_ok q
  exact encS_ok (by omega) (by omega) (by omega) (by omega) hp
end Go.Proofs.Ytcmmkeadbedooaa
