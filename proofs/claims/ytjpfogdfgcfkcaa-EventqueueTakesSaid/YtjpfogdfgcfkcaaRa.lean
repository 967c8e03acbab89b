/- Queues in order, on lists: adding keeps them so. -/
import Derived.Test.YtjpfogdfgcfkcaaO
namespace Go.Proofs.Ytjpfogdfgcfkcaa
open Go.RowKit Go.Lib

def ne2 (a b : Ec) : Prop := a.2.1 ≠ b.2.1
structure Good (l : List Ec) (next : Int) : Prop where
  len : l.length ≤ 4096
  low : 0 ≤ next
  high : next ≤ 1073741824
  fld : ∀ e ∈ l, fldC e next = 0
  ord : l.Pairwise ltE
  num : l.Pairwise ne2
theorem cmpE_of {t n t' n' : Int} (h : t' < t ∨ (t' = t ∧ n' < n)) : ¬ cmpE t n t' n' ≤ 0 := by
  unfold cmpE orI cmpI
  by_cases h2 : t' < t
  · simp [h2]; omega
  · obtain ⟨rfl, h4⟩ : t' = t ∧ n' < n := by omega
    simp [h4]; omega
theorem chkR_good (next : Int) : ∀ (r pre : List Ec), (∀ e ∈ r, fldC e next = 0) → (pre ++ r).Pairwise ltE → (pre ++ r).Pairwise ne2 → chkR next pre r = 0 := by
  intro r
  induction r with
  | nil => intro pre _ _ _; rfl
  | cons e r ih =>
    intro pre hf ho hn
    have hpe : ∀ a ∈ pre, ltE a e ∧ ne2 a e := fun a ha => ⟨(List.pairwise_append.1 ho).2.2 a ha e (List.mem_cons_self ..), (List.pairwise_append.1 hn).2.2 a ha e (List.mem_cons_self ..)⟩
    have h1 : prevE pre e = false := by
      rcases hl : pre.getLast? with _ | q
      · unfold prevE; rw [hl]
      · rw [prevE_some hl]
        unfold badE
        refine decide_eq_false (cmpE_of ?_)
        have := (hpe q (List.mem_of_getLast? hl)).1
        unfold ltE at this
        omega
    have h2 : seenE pre e.2.1 = false := by
      unfold seenE
      rw [List.any_eq_false]
      intro a ha
      have := (hpe a ha).2
      unfold ne2 at this
      simpa using this
    rw [chk_step (hf e (List.mem_cons_self ..)) h1 h2]
    exact ih (pre ++ [e]) (fun x hx => hf x (List.mem_cons_of_mem _ hx)) (by simpa using ho) (by simpa using hn)
theorem Good.chk {l : List Ec} {next : Int} (h : Good l next) : chk l next = 0 := by
  unfold Go.Proofs.Ytjpfogdfgcfkcaa.chk
  rw [if_neg (by have := h.len; omega), if_neg (by have := h.low; have := h.high; omega)]
  exact chkR_good next l [] h.fld h.ord h.num
theorem fldC_up {e : Ec} {next : Int} (h : fldC e next = 0) : fldC e (next + 1) = 0 := by
  have := fldC_ok h
  unfold fldC fldI
  rw [if_neg (by omega), if_neg (by omega), if_neg (by omega)]
theorem take_unt (l : List Ec) (t : Int) : l.take (unt l t) = l.takeWhile (fun x => decide (x.1 ≤ t)) := by
  unfold unt
  exact (List.prefix_iff_eq_take.1 (List.takeWhile_prefix _)).symm
theorem drop_unt (l : List Ec) (t : Int) : l.drop (unt l t) = l.dropWhile (fun x => decide (x.1 ≤ t)) := by
  have h := List.takeWhile_append_dropWhile (p := fun x : Ec => decide (x.1 ≤ t)) (l := l)
  have h2 := List.take_append_drop (unt l t) l
  rw [take_unt] at h2
  exact List.append_cancel_left (h2.trans h.symm)
theorem take_le {t : Int} : ∀ {l : List Ec}, ∀ x ∈ l.takeWhile (fun x => decide (x.1 ≤ t)), x.1 ≤ t := by
  intro l
  induction l with
  | nil => intro x hx; simp at hx
  | cons e r ih =>
    intro x hx
    rw [List.takeWhile_cons] at hx
    by_cases he : e.1 ≤ t
    · rw [if_pos (by simpa using he)] at hx
      rcases List.mem_cons.1 hx with rfl | hx
      · exact he
      · exact ih x hx
    · rw [if_neg (by simpa using he)] at hx
      cases hx
theorem drop_gt {t : Int} : ∀ {l : List Ec}, l.Pairwise ltE → ∀ x ∈ l.dropWhile (fun x => decide (x.1 ≤ t)), t < x.1 := by
  intro l
  induction l with
  | nil => intro _ x hx; simp at hx
  | cons e r ih =>
    intro h x hx
    obtain ⟨h1, h2⟩ := List.pairwise_cons.1 h
    rw [List.dropWhile_cons] at hx
    by_cases he : e.1 ≤ t
    · rw [if_pos (by simpa using he)] at hx
      exact ih h2 x hx
    · rw [if_neg (by simpa using he)] at hx
      rcases List.mem_cons.1 hx with rfl | hx
      · omega
      · have := h1 x hx
        unfold ltE at this
        omega
theorem Good.ins {l : List Ec} {next t k o : Int} {p : List Nat} (h : Good l next) (ht : 0 ≤ t) (ht2 : t ≤ 1073741824) (hk : 0 ≤ k) (ho : 0 ≤ o) (hp : p.length ≤ 4096) (hl : l.length < 4096) (hn : next < 1073741824) :
    addS l next t k o p = .ok (insE l t (t, next, k, o, p)) ∧ Good (insE l t (t, next, k, o, p)) (next + 1) := by
  have hlow := h.low
  have hf : fldI t next k o p.length (next + 1) = 0 := by
    unfold fldI
    rw [if_neg (by omega), if_neg (by omega), if_neg (by omega)]
  constructor
  · unfold addS
    rw [h.chk, if_neg (by simp), hf, if_neg (by simp), if_neg (by omega)]
  · have hsp : l = l.take (unt l t) ++ l.drop (unt l t) := (List.take_append_drop _ _).symm
    have ha : ∀ a ∈ l.take (unt l t), ltE a (t, next, k, o, p) ∧ ne2 a (t, next, k, o, p) := fun a ha => by
      have h1 := fldC_ok (h.fld a (List.mem_of_mem_take ha))
      rw [take_unt] at ha
      have h2 := take_le a ha
      unfold ltE ne2
      dsimp only
      omega
    have hb : ∀ b ∈ l.drop (unt l t), ltE (t, next, k, o, p) b ∧ ne2 (t, next, k, o, p) b := fun b hb => by
      have h1 := fldC_ok (h.fld b (List.mem_of_mem_drop hb))
      rw [drop_unt] at hb
      have h2 := drop_gt h.ord b hb
      unfold ltE ne2
      dsimp only
      omega
    have hpw : ∀ {R : Ec → Ec → Prop}, l.Pairwise R → (∀ a ∈ l.take (unt l t), R a (t, next, k, o, p)) → (∀ b ∈ l.drop (unt l t), R (t, next, k, o, p) b) → (insE l t (t, next, k, o, p)).Pairwise R := fun {R} hr h1 h2 => by
      rw [hsp] at hr
      obtain ⟨r1, r2, r3⟩ := List.pairwise_append.1 hr
      unfold insE
      rw [List.append_assoc, List.pairwise_append]
      refine ⟨r1, ?_, fun a ha b hb => ?_⟩
      · rw [List.singleton_append, List.pairwise_cons]
        exact ⟨h2, r2⟩
      · rcases List.mem_append.1 hb with hb | hb
        · rw [List.mem_singleton] at hb; subst hb; exact h1 a ha
        · exact r3 a ha b hb
    refine ⟨?_, by omega, by omega, fun e he => ?_, hpw h.ord (fun a h1 => (ha a h1).1) (fun b h1 => (hb b h1).1), hpw h.num (fun a h1 => (ha a h1).2) (fun b h1 => (hb b h1).2)⟩
    · unfold insE
      have := unt_le l t
      simp only [List.length_append, List.length_take, List.length_drop, List.length_singleton]
      omega
    · rcases insE_mem he with he | rfl
      · exact fldC_up (h.fld e he)
      · exact hf
theorem Good.drop {l : List Ec} {next : Int} (h : Good l next) (n : Nat) : Good (l.drop n) next :=
  ⟨by rw [List.length_drop]; have := h.len; omega, h.low, h.high, fun e he => h.fld e (List.mem_of_mem_drop he), h.ord.sublist (List.drop_sublist _ _), h.num.sublist (List.drop_sublist _ _)⟩
theorem insE_len (l : List Ec) (t : Int) (e : Ec) : (insE l t e).length = l.length + 1 := by
  unfold insE
  have := unt_le l t
  simp only [List.length_append, List.length_take, List.length_drop, List.length_singleton]
  omega
theorem adds_good : ∀ (ts : List Int) (l : List Ec) (i : Nat), Good l i → l.length = i → i + ts.length ≤ 1000 → (∀ t ∈ ts, 0 ≤ t ∧ t ≤ 1073741824) → ∃ L, addsF l i ts = (L, i + ts.length, true) ∧ Good L ((i + ts.length : Nat) : Int) ∧ L.length = i + ts.length := by
  intro ts
  induction ts with
  | nil => intro l i hg hl _ _; exact ⟨l, rfl, hg, hl⟩
  | cons t r ih =>
    intro l i hg hl hb ht
    rw [List.length_cons] at hb ⊢
    obtain ⟨h1, h2⟩ := hg.ins (t := t) (k := i) (o := 0) (p := []) (ht t (List.mem_cons_self ..)).1 (ht t (List.mem_cons_self ..)).2 (by omega) (by omega) (by simp) (by omega) (by omega)
    rw [addsF_ok h1]
    obtain ⟨L, e1, e2, e3⟩ := ih (insE l t (t, i, i, 0, [])) (i + 1) (by rw [show ((i + 1 : Nat) : Int) = (i : Int) + 1 by omega]; exact h2) (by rw [insE_len, hl]) (by omega) (fun x hx => ht x (List.mem_cons_of_mem _ hx))
    exact ⟨L, by rw [e1, show i + 1 + r.length = i + (r.length + 1) by omega], by rw [show i + (r.length + 1) = i + 1 + r.length by omega]; exact e2, by omega⟩
theorem good_nil : Good [] ((0 : Nat) : Int) := ⟨by simp, by omega, by omega, fun e he => (by cases he), List.Pairwise.nil, List.Pairwise.nil⟩
end Go.Proofs.Ytjpfogdfgcfkcaa
