/- Lists: what adding leaves, what cancelling leaves. -/
import Derived.Test.YtjpfogdfgcfkcaaRb
namespace Go.Proofs.Ytjpfogdfgcfkcaa
open Go.RowKit Go.Lib

theorem insE_mem_old {l : List Ec} {t : Int} {e x : Ec} (h : x ∈ l) : x ∈ insE l t e := by
  unfold insE
  rw [← List.take_append_drop (unt l t) l] at h
  rcases List.mem_append.1 h with h | h
  · simp [h]
  · simp [h]
theorem insE_mem_new (l : List Ec) (t : Int) (e : Ec) : e ∈ insE l t e := by
  unfold insE
  simp
theorem adds_more : ∀ (ts : List Int) (l : List Ec) (i : Nat), Good l i → l.length = i → i + ts.length ≤ 1000 → (∀ t ∈ ts, 0 ≤ t ∧ t ≤ 1073741824) → ∃ L, addsF l i ts = (L, i + ts.length, true) ∧ Good L ((i + ts.length : Nat) : Int) ∧ L.length = i + ts.length ∧ (∀ e ∈ l, e ∈ L) ∧ (∀ j : Nat, i ≤ j → j < i + ts.length → ∃ e ∈ L, e.2.1 = (j : Int)) ∧ (∀ e ∈ L, e ∈ l ∨ e.1 ∈ ts) := by
  intro ts
  induction ts with
  | nil => intro l i hg hl _ _; exact ⟨l, rfl, hg, hl, fun e h => h, fun j h1 h2 => by simp at h2; omega, fun e h => .inl h⟩
  | cons t r ih =>
    intro l i hg hl hb ht
    rw [List.length_cons] at hb ⊢
    obtain ⟨h1, h2⟩ := hg.ins (t := t) (k := i) (o := 0) (p := []) (ht t (List.mem_cons_self ..)).1 (ht t (List.mem_cons_self ..)).2 (by omega) (by omega) (by simp) (by omega) (by omega)
    rw [addsF_ok h1]
    obtain ⟨L, e1, e2, e3, e4, e5, e6⟩ := ih (insE l t (t, i, i, 0, [])) (i + 1) (by rw [show ((i + 1 : Nat) : Int) = (i : Int) + 1 by omega]; exact h2) (by rw [insE_len, hl]) (by omega) (fun x hx => ht x (List.mem_cons_of_mem _ hx))
    refine ⟨L, by rw [e1, show i + 1 + r.length = i + (r.length + 1) by omega], by rw [show i + (r.length + 1) = i + 1 + r.length by omega]; exact e2, by omega, fun e h => e4 e (insE_mem_old h), fun j hj1 hj2 => ?_, fun e h => ?_⟩
    · by_cases hj : j = i
      · subst hj
        exact ⟨_, e4 _ (insE_mem_new _ _ _), rfl⟩
      · exact e5 j (by omega) (by omega)
    · rcases e6 e h with h | h
      · rcases insE_mem h with h | rfl
        · exact .inl h
        · exact .inr (List.mem_cons_self ..)
      · exact .inr (List.mem_cons_of_mem _ h)
theorem unt_all {l : List Ec} {t : Int} (h : ∀ e ∈ l, e.1 ≤ t) : unt l t = l.length := by
  refine unt_of (Nat.le_refl _) (fun i x _ hx => h x (List.mem_of_getElem? hx)) (fun i x hi hx => ?_)
  have := (List.getElem?_eq_some_iff.1 hx).1
  omega
theorem Good.sub {l k : List Ec} {next : Int} (h : Good l next) (hs : k.Sublist l) : Good k next :=
  ⟨Nat.le_trans hs.length_le h.len, h.low, h.high, fun e he => h.fld e (hs.subset he), h.ord.sublist hs, h.num.sublist hs⟩
theorem cnl_sub {num : Int} : ∀ l : List Ec, (cnl num l).Sublist l := by
  intro l
  induction l with
  | nil => exact List.Sublist.refl _
  | cons e r ih =>
    rw [cnl]
    split
    · exact List.sublist_cons_self _ _
    · exact ih.cons_cons _
theorem dueN_all {l : List Ec} {next t : Int} (hg : Good l next) (h : ∀ e ∈ l, e.1 ≤ t) : dueN l next t = l.length := by
  unfold dueN
  rw [if_pos hg.chk, unt_all h]
/-- The event with a number lies at one place. -/
theorem cancel_good {l : List Ec} {next num : Int} {e : Ec} (hg : Good l next) (he : e ∈ l) (hn : e.2.1 = num) :
    ∃ r, r < l.length ∧ cancelS l next num = (l.take r ++ l.drop (r + 1), true) ∧ Good (l.take r ++ l.drop (r + 1)) next ∧ cancelS (l.take r ++ l.drop (r + 1)) next num = (l.take r ++ l.drop (r + 1), false) ∧
      (l.take r ++ l.drop (r + 1)).Sublist l ∧ (∀ i x, l[i]? = some x → (x.2.1 = num ↔ i = r)) := by
  obtain ⟨r, hr, her⟩ := List.getElem_of_mem he
  have hre : l[r]? = some e := by rw [List.getElem?_eq_getElem hr, her]
  have huniq : ∀ i x, l[i]? = some x → (x.2.1 = num ↔ i = r) := fun i x hx => by
    obtain ⟨hi, hxi⟩ := List.getElem?_eq_some_iff.1 hx
    constructor
    · intro hxn
      rcases Nat.lt_trichotomy i r with h | h | h
      · exact absurd (hxn.trans hn.symm) (by have := List.pairwise_iff_getElem.1 hg.num i r hi hr h; rw [hxi, her] at this; exact this)
      · exact h
      · exact absurd (hn.trans hxn.symm) (by have := List.pairwise_iff_getElem.1 hg.num r i hr hi h; rw [hxi, her] at this; exact this)
    · rintro rfl
      rw [hre] at hx
      injection hx with hx
      rw [← hx]; exact hn
  have hbef : ∀ y ∈ l.take r, y.2.1 ≠ num := fun y hy hyn => by
    obtain ⟨i, hi, hyi⟩ := List.getElem_of_mem hy
    rw [List.length_take] at hi
    rw [List.getElem_take] at hyi
    have := (huniq i y (by rw [List.getElem?_eq_getElem (by omega), hyi])).1 hyn
    omega
  have haft : ∀ y ∈ l.drop (r + 1), y.2.1 ≠ num := fun y hy hyn => by
    obtain ⟨i, hi, hyi⟩ := List.getElem_of_mem hy
    rw [List.length_drop] at hi
    rw [List.getElem_drop] at hyi
    have := (huniq (r + 1 + i) y (by rw [List.getElem?_eq_getElem (by omega), hyi])).1 hyn
    omega
  have hcn := cnl_at hre hn hbef
  have hsub : (l.take r ++ l.drop (r + 1)).Sublist l := by rw [← hcn]; exact cnl_sub l
  have hgs := hg.sub hsub
  refine ⟨r, hr, ?_, hgs, ?_, hsub, huniq⟩
  · unfold cancelS
    rw [hg.chk, if_neg (by simp), if_pos (seen_of hre hn), hcn]
  · unfold cancelS
    rw [hgs.chk, if_neg (by simp), seen_no (fun y hy => (List.mem_append.1 hy).elim (hbef y) (haft y)), if_neg (by simp)]
theorem without_at {α : Type} {l : List α} {r i : Nat} (hr : r < l.length) (h : i ≠ r) : (l.take r ++ l.drop (r + 1))[if i < r then i else i - 1]? = l[i]? := by
  by_cases hi : i < r
  · rw [if_pos hi, List.getElem?_append_left (by rw [List.length_take]; omega), List.getElem?_take_of_lt hi]
  · rw [if_neg hi, List.getElem?_append_right (by rw [List.length_take]; omega), List.length_take, List.getElem?_drop]
    congr 1
    omega
theorem without_len {α : Type} {l : List α} {r : Nat} (hr : r < l.length) : (l.take r ++ l.drop (r + 1)).length = l.length - 1 := by
  rw [List.length_append, List.length_take, List.length_drop]
  omega
end Go.Proofs.Ytjpfogdfgcfkcaa
