/- Extents of a set: the list that results from the elements one after another. -/
import Derived.Test.YtbifhcjkdfocaaaDoorI
namespace Go.Proofs.YtbifhcjkdfocaaaDoor
open Go.RowKit

/-- The number i lies in one of the extents. -/
def inL (l : List (Int × Int)) (i : Nat) : Bool := l.any fun e => decide (e.1 ≤ (i : Int) ∧ (i : Int) < e.1 + e.2)
theorem inL_nil (i : Nat) : inL [] i = false := rfl
theorem inL_append (a b : List (Int × Int)) (i : Nat) : inL (a ++ b) i = (inL a i || inL b i) := by unfold inL; rw [List.any_append]
theorem inL_one (s c : Int) (i : Nat) : inL [(s, c)] i = decide (s ≤ (i : Int) ∧ (i : Int) < s + c) := by unfold inL; simp
/-- A list with one more number, the greatest one. -/
def addE (l : List (Int × Int)) (x : Nat) : List (Int × Int) :=
  match l.getLast? with
  | none => l ++ [((x : Int), 1)]
  | some e => if e.1 + e.2 = (x : Int) then l.dropLast ++ [(e.1, e.2 + 1)] else l ++ [((x : Int), 1)]
theorem addE_nil (x : Nat) : addE [] x = [((x : Int), 1)] := rfl
theorem addE_last {m : List (Int × Int)} {s c : Int} {x : Nat} (h : s + c = x) : addE (m ++ [(s, c)]) x = m ++ [(s, c + 1)] := by
  unfold addE
  rw [List.getLast?_concat]
  simp only [h, if_true, List.dropLast_concat]
theorem addE_new {m : List (Int × Int)} {s c : Int} {x : Nat} (h : ¬ s + c = x) : addE (m ++ [(s, c)]) x = (m ++ [(s, c)]) ++ [((x : Int), 1)] := by
  unfold addE
  rw [List.getLast?_concat]
  simp only [h, if_false]
def extsOf (xs : List Nat) : List (Int × Int) := xs.foldl addE []
theorem extsOf_snoc (xs : List Nat) (x : Nat) : extsOf (xs ++ [x]) = addE (extsOf xs) x := by unfold extsOf; rw [List.foldl_append]; rfl
theorem last_or (l : List (Int × Int)) : l = [] ∨ ∃ m s c, l = m ++ [(s, c)] := by
  rcases List.eq_nil_or_concat l with h | ⟨m, ⟨s, c⟩, h⟩
  · exact .inl h
  · exact .inr ⟨m, s, c, by rw [h, List.concat_eq_append]⟩

structure Runs (p : Nat → Bool) (k : Nat) (l : List (Int × Int)) : Prop where
  each : ∀ e ∈ l, 0 ≤ e.1 ∧ 1 ≤ e.2 ∧ e.1 + e.2 ≤ k
  apart : ∀ (i : Nat) (e f : Int × Int), l[i]? = some e → l[i + 1]? = some f → e.1 + e.2 < f.1
  mem : ∀ i : Nat, inL l i = (decide (i < k) && p i)
  len : l.length ≤ k
theorem runs_start (p : Nat → Bool) : Runs p 0 [] := ⟨(fun e h => by cases h), (fun i e f h => by simp at h), (fun i => by rw [inL_nil, decide_eq_false (by omega), Bool.false_and]), Nat.le_refl _⟩
theorem runs_no {p : Nat → Bool} {k : Nat} {l : List (Int × Int)} (h : Runs p k l) (hk : p k = false) : Runs p (k + 1) l := by
  refine ⟨fun e he => by have := h.each e he; omega, h.apart, fun i => ?_, by have := h.len; omega⟩
  rw [h.mem i]
  by_cases e : i = k
  · rw [e, hk, Bool.and_false, Bool.and_false]
  · congr 1
    simp only [decide_eq_decide]
    omega
theorem runs_yes {p : Nat → Bool} {k : Nat} {l : List (Int × Int)} (h : Runs p k l) (hk : p k = true) : Runs p (k + 1) (addE l k) := by
  have hlen := h.len
  rcases last_or l with rfl | ⟨m, s, c, rfl⟩
  · rw [addE_nil]
    refine ⟨fun e he => ?_, fun i e f h1 h2 => ?_, fun i => ?_, by simp⟩
    · simp only [List.mem_singleton] at he
      subst he
      exact ⟨by omega, by omega, by simp⟩
    · have := (List.getElem?_eq_some_iff.1 h2).1
      simp at this
    · have h0 := h.mem i
      rw [inL_nil] at h0
      rw [inL_one]
      by_cases e : i = k
      · rw [e, hk, Bool.and_true]; simp; omega
      · have e1 : decide ((k : Int) ≤ i ∧ (i : Int) < k + 1) = false := by simp; omega
        have e2 : decide (i < k + 1) = decide (i < k) := by simp only [decide_eq_decide]; omega
        rw [e1, e2, ← h0]
  · obtain ⟨hs, hc, hsc⟩ := h.each (s, c) (by simp)
    dsimp only at hs hc hsc
    by_cases hx : s + c = k
    · rw [addE_last hx]
      refine ⟨fun e he => ?_, fun i e f h1 h2 => ?_, fun i => ?_, by simp at hlen ⊢; omega⟩
      · rw [List.mem_append, List.mem_singleton] at he
        rcases he with he | rfl
        · have := h.each e (List.mem_append_left _ he); omega
        · dsimp only; omega
      · have hi := (List.getElem?_eq_some_iff.1 h2).1
        simp at hi
        have h1' : (m ++ [(s, c)])[i]? = some e := by
          rw [List.getElem?_append_left (by omega)] at h1 ⊢; exact h1
        by_cases hi2 : i + 1 < m.length
        · have h2' : (m ++ [(s, c)])[i + 1]? = some f := by
            rw [List.getElem?_append_left (by omega)] at h2 ⊢; exact h2
          exact h.apart i e f h1' h2'
        · have h2' : (m ++ [(s, c)])[i + 1]? = some (s, c) := by
            rw [List.getElem?_append_right (by omega)]; have : i + 1 - m.length = 0 := by omega
            rw [this]; rfl
          have := h.apart i e _ h1' h2'
          rw [List.getElem?_append_right (by omega)] at h2
          have e0 : i + 1 - m.length = 0 := by omega
          rw [e0] at h2
          simp at h2
          rw [← h2]
          exact this
      · have h0 := h.mem i
        rw [inL_append, inL_one] at h0 ⊢
        by_cases e : i = k
        · subst e
          rw [hk, Bool.and_true]
          have : decide (s ≤ (i : Int) ∧ (i : Int) < s + (c + 1)) = true := by simp; omega
          rw [this, Bool.or_true]
          simp
        · have e1 : decide (s ≤ (i : Int) ∧ (i : Int) < s + (c + 1)) = decide (s ≤ (i : Int) ∧ (i : Int) < s + c) := by simp only [decide_eq_decide]; omega
          have e2 : decide (i < k + 1) = decide (i < k) := by simp only [decide_eq_decide]; omega
          rw [e1, e2, ← h0]
    · rw [addE_new hx]
      refine ⟨fun e he => ?_, fun i e f h1 h2 => ?_, fun i => ?_, by simp at hlen ⊢; omega⟩
      · rw [List.mem_append, List.mem_singleton] at he
        rcases he with he | rfl
        · have := h.each e he; omega
        · dsimp only; omega
      · have hi := (List.getElem?_eq_some_iff.1 h2).1
        simp at hi
        have h1' : (m ++ [(s, c)])[i]? = some e := by
          rw [List.getElem?_append_left (by simp; omega)] at h1; exact h1
        by_cases hi2 : i < m.length
        · have h2' : (m ++ [(s, c)])[i + 1]? = some f := by
            rw [List.getElem?_append_left (by simp; omega)] at h2; exact h2
          exact h.apart i e f h1' h2'
        · have e0 : i = m.length := by omega
          subst e0
          rw [List.getElem?_append_right (by omega)] at h1'
          simp at h1'
          rw [List.getElem?_append_right (by simp)] at h2
          simp at h2
          rw [← h1', ← h2]
          dsimp only
          omega
      · have h0 := h.mem i
        rw [inL_append, inL_one, h0]
        by_cases e : i = k
        · subst e
          rw [hk, Bool.and_true, Bool.and_true]
          have : decide ((i : Int) ≤ (i : Int) ∧ (i : Int) < i + 1) = true := by simp; omega
          rw [this, Bool.or_true]
          simp
        · have e1 : decide ((k : Int) ≤ (i : Int) ∧ (i : Int) < k + 1) = false := by simp; omega
          have e2 : decide (i < k + 1) = decide (i < k) := by simp only [decide_eq_decide]; omega
          rw [e1, e2, Bool.or_false]
theorem elsL_snoc (p : Nat → Bool) (k : Nat) : elsL p 0 (k + 1) = elsL p 0 k ++ (if p k = true then [k] else []) := by
  rw [elsL_add, Nat.zero_add]
  congr 1
  by_cases h : p k = true
  · rw [if_pos h, elsL_one h]
  · rw [if_neg h]
    exact elsL_none (fun j h1 h2 => by
      have : j = k := by omega
      rw [this]; simpa using h)
theorem runs_els (p : Nat → Bool) (k : Nat) : Runs p k (extsOf (elsL p 0 k)) := by
  induction k with
  | zero => exact runs_start p
  | succ k ih =>
    rw [elsL_snoc]
    by_cases h : p k = true
    · rw [if_pos h, extsOf_snoc]
      exact runs_yes ih h
    · rw [if_neg h, List.append_nil]
      exact runs_no ih (by simpa using h)

/-- The extents of a bitmap. -/
noncomputable def exts (s : Int) (ws : List Nat) : List (Int × Int) := if chk s ws = 0 then extsOf (elsL (bit ws) 0 s.toNat) else []
theorem exts_bad {s : Int} {ws : List Nat} (h : ¬ chk s ws = 0) : exts s ws = [] := by unfold exts; rw [if_neg h]
theorem exts_good {s : Nat} {ws : List Nat} (h : chk s ws = 0) : exts s ws = extsOf (elsL (bit ws) 0 s) := by unfold exts; rw [if_pos h, Int.toNat_natCast]
theorem exts_runs {s : Nat} {ws : List Nat} (h : chk s ws = 0) : Runs (bit ws) s (exts s ws) := by rw [exts_good h]; exact runs_els _ _
theorem exts_len (s : Int) (ws : List Nat) : (exts s ws).length ≤ 4096 := by
  by_cases h : chk s ws = 0
  · have good := chk_zero h
    have hlow := good.low
    have hhigh := good.high
    obtain ⟨f, rfl⟩ := Int.eq_ofNat_of_zero_le hlow
    have := (exts_runs h).len
    omega
  · rw [exts_bad h]; simp
end Go.Proofs.YtbifhcjkdfocaaaDoor
