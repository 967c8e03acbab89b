/- How many sectors a set has: the plain count, and what Count of package extent answers. -/
import Derived.Test.YtkchenhkolpinaaU
namespace Go.Proofs.Ytkchenhkolpinaa
open Go.RowKit

def cardTo (p : Int → Bool) : Nat → Int
  | 0 => 0
  | n + 1 => cardTo p n + (if p n = true then 1 else 0)
def NS : Nat := 4096
theorem ns_eq : NS = 4096 := rfl
def card (p : Int → Bool) : Int := cardTo p NS
theorem cardTo_congr {p q : Int → Bool} (h : ∀ x, p x = q x) (n : Nat) : cardTo p n = cardTo q n := by
  induction n with
  | zero => rfl
  | succ n ih => rw [cardTo, cardTo, ih, h]
theorem cardTo_add (p q : Int → Bool) (n : Nat) : cardTo p n + cardTo q n = cardTo (fun x => p x || q x) n + cardTo (fun x => p x && q x) n := by
  induction n with
  | zero => rfl
  | succ n ih =>
    simp only [cardTo]
    by_cases h1 : p n = true <;> by_cases h2 : q n = true <;> simp [h1, h2] <;> omega
theorem cardTo_none (n : Nat) : cardTo (fun _ => false) n = 0 := by
  induction n with
  | zero => rfl
  | succ n ih => rw [cardTo, ih]; rfl
theorem cardTo_range (p : Int → Bool) (n : Nat) : 0 ≤ cardTo p n ∧ cardTo p n ≤ n := by
  induction n with
  | zero => simp [cardTo]
  | succ n ih => rw [cardTo]; split <;> omega
theorem cardTo_inE {s n : Int} (h0 : 0 ≤ s) (h1 : 1 ≤ n) (_h2 : s + n ≤ 4096) (k : Nat) (hk : k ≤ 4096) : cardTo (fun x => inE (s, n) x) k = if (k : Int) ≤ s then 0 else if (k : Int) ≤ s + n then k - s else n := by
  induction k with
  | zero => simp [cardTo, h0]
  | succ k ih =>
    rw [cardTo, ih (by omega)]
    have hin : inE (s, n) (k : Int) = decide (s ≤ (k : Int) ∧ (k : Int) < s + n) := by
      simp only [inE, decide_eq_decide]
      omega
    rw [hin]
    simp only [decide_eq_true_eq]
    (repeat' split) <;> omega
theorem cnt_card {l : List (Int × Int)} : ∀ {lo : Int}, 0 ≤ lo → Canon lo l → cnt l = card (fun x => mem l x) := by
  induction l with
  | nil => intro lo _ _; exact (cardTo_none _).symm
  | cons e r ih =>
    intro lo hlo h
    have h1 := h.1
    have h2 := h.2.1
    have h3 := h.2.2.1
    have hr := ih (by omega) h.2.2.2
    have ha := cardTo_add (fun x => inE e x) (fun x => mem r x) NS
    have hd : cardTo (fun x => inE e x && mem r x) NS = 0 := by
      rw [cardTo_congr (q := fun _ => false) (fun x => ?_), cardTo_none]
      by_cases hx : x < e.1 + e.2 + 1
      · rw [h.2.2.2.mem_low hx, Bool.and_false]
      · have : inE e x = false := by simp [inE]; omega
        rw [this, Bool.false_and]
    have he := cardTo_inE (s := e.1) (n := e.2) (by omega) h2 h3 NS (by rw [ns_eq]; exact Nat.le_refl _)
    have hm : card (fun x => mem (e :: r) x) = cardTo (fun x => inE e x || mem r x) NS := cardTo_congr (fun x => mem_cons e r x) _
    have hns : (NS : Int) = 4096 := by rw [ns_eq]; rfl
    rw [hns, if_neg (by omega)] at he
    have he' : cardTo (fun x => inE e x) NS = e.2 := by
      rw [show (fun x => inE e x) = fun x => inE (e.1, e.2) x from rfl, he]
      split <;> omega
    rw [hd, he', Int.add_zero] at ha
    rw [hm, ← ha]
    simp only [cnt]
    rw [hr]
    rfl
theorem card_congr {p q : Int → Bool} (h : ∀ x, p x = q x) : card p = card q := cardTo_congr h _
theorem card_range (p : Int → Bool) : 0 ≤ card p ∧ card p ≤ 4096 := by
  have h := cardTo_range p NS
  have hns : (NS : Int) = 4096 := by rw [ns_eq]; rfl
  rw [hns] at h
  exact h
theorem card_add (p q : Int → Bool) : card p + card q = card (fun x => p x || q x) + card (fun x => p x && q x) := cardTo_add p q _
theorem card_sub (p q : Int → Bool) : card (fun x => p x && !q x) + card (fun x => p x && q x) = card p := by
  have h := card_add (fun x => p x && !q x) (fun x => p x && q x)
  have h1 : card (fun x => (p x && !q x) || (p x && q x)) = card p := card_congr fun x => by cases p x <;> cases q x <;> rfl
  have h2 : card (fun x => (p x && !q x) && (p x && q x)) = 0 := by
    unfold card
    rw [cardTo_congr (q := fun _ => false) (fun x => by cases p x <;> cases q x <;> rfl), cardTo_none]
  rw [h1, h2, Int.add_zero] at h
  exact h

theorem count_c (a : List (Int × Int)) (va : Value) (p : Int → Bool) (w : World) (ha : Ext w va a) (la : a.length ≤ 10000) (hp : ∀ x, mem a x = p x) :
    Calls Try.prog 25 #[va] w fun e w' => e = .returned (.int .i64 (card p)) ∧ Below w.heap.size w w' := by
  refine (count_any a va w ha la).mono ?_
  rintro e w' ⟨l, rfl, hc, hm, hb⟩
  exact ⟨ret_int (by rw [cnt_card (Int.le_refl _) hc]; exact card_congr fun x => (hm x).trans (hp x)), hb⟩
/-- A result of Union, Intersect .. with its length bounded. -/
theorem made_len {w : World} {p : Int → Bool} {f : Nat} {args : Array Value} (h : Calls Try.prog f args w (Made w p)) :
    Calls Try.prog f args w fun e w' => ∃ v l, e = .returned v ∧ Ext w' v l ∧ Canon 0 l ∧ (∀ x, mem l x = p x) ∧ l.length ≤ 2049 ∧ Below w.heap.size w w' :=
  h.mono fun _ _ ⟨v, l, he, hc, hm, hx, hb⟩ => ⟨v, l, he, hx, hc, hm, len_of_canon hc, hb⟩
end Go.Proofs.Ytkchenhkolpinaa
