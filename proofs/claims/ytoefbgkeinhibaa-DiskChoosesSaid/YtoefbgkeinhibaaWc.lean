/- Lists for Chooses: choices 0 .. 0 v take the v-th occurrence of one sector; how a place and a version are counted. -/
import Derived.Test.YtoefbgkeinhibaaWb
namespace Go.Proofs.Ytoefbgkeinhibaa
open Go.RowKit Go.Lib
theorem dec_zero {l : List Int} (h : ∀ x ∈ l, x = 0) (n : Int) : dec l n = 0 := by
  cases l with
  | nil => rfl
  | cons x t =>
    have := h x (List.mem_cons_self ..)
    subst this
    exact Int.zero_emod n
theorem crs_zero (ca : List Ca) (ks : List Int) (st : List Sect) (ch : List Int) (h : ∀ x ∈ ch, x = 0) : (crs ca ks st ch).1 = st := by
  induction ks generalizing ch with
  | nil => rfl
  | cons κ r ih =>
    rw [crs, if_neg (by rw [dec_zero h]; omega)]
    exact ih _ (fun x hx => h x (List.mem_of_mem_tail hx))
theorem crs_app (ca : List Ca) (k1 k2 : List Int) (st : List Sect) (ch : List Int) : crs ca (k1 ++ k2) st ch = crs ca k2 (crs ca k1 st ch).1 (crs ca k1 st ch).2 := by
  induction k1 generalizing st ch with
  | nil => rfl
  | cons κ r ih => rw [List.cons_append, crs, ih, crs]
theorem crs_skip (ca : List Ca) (ks : List Int) (st : List Sect) (t : List Int) : crs ca ks st (List.replicate ks.length 0 ++ t) = (st, t) := by
  induction ks with
  | nil => rfl
  | cons κ r ih =>
    rw [crs, List.length_cons, List.replicate_succ, List.cons_append, List.tail_cons, if_neg (by
      rw [show dec (0 :: (List.replicate r.length 0 ++ t)) (((G ca κ).length : Int) + 1) = 0 from Int.zero_emod _]
      omega)]
    exact ih
theorem crs_pick (ca : List Ca) (k1 k2 : List Int) (κ : Int) (st : List Sect) (v : Int) (h1 : 1 ≤ v) (h2 : v ≤ (G ca κ).length) : (crs ca (k1 ++ κ :: k2) st (List.replicate k1.length 0 ++ [v])).1 = st.set κ.toNat ((G ca κ).getD (v - 1).toNat []) := by
  rw [crs_app, crs_skip, crs, List.tail_cons, crs_zero _ _ _ _ (fun x hx => absurd hx (by simp))]
  have hd : dec [v] (((G ca κ).length : Int) + 1) = v := Int.emod_eq_of_lt (by omega) (by omega)
  rw [hd, if_pos (by omega)]
theorem sorted_split {l : List Int} (h : l.Pairwise (· < ·)) {κ : Int} (hm : κ ∈ l) : l = l.filter (fun x => decide (x < κ)) ++ κ :: l.filter (fun x => decide (κ < x)) := by
  induction l with
  | nil => exact absurd hm (by simp)
  | cons a t ih =>
    rw [List.pairwise_cons] at h
    rcases List.mem_cons.1 hm with rfl | hm
    · have e1 : (κ :: t).filter (fun x => decide (x < κ)) = [] := by
        rw [List.filter_eq_nil_iff]
        intro x hx
        rw [decide_eq_true_iff]
        rcases List.mem_cons.1 hx with rfl | hx
        · omega
        · have := h.1 x hx; omega
      have e2 : (κ :: t).filter (fun x => decide (κ < x)) = t := by
        rw [List.filter_cons, if_neg (by simp), List.filter_eq_self]
        intro x hx
        rw [decide_eq_true_iff]
        exact h.1 x hx
      rw [e1, e2]
      rfl
    · have ha := h.1 κ hm
      rw [List.filter_cons, if_pos (by simpa using ha), List.filter_cons, if_neg (by simp; omega), List.cons_append, ← ih h.2 hm]
theorem filter_one {α : Type} {l : List α} (hn : l.Nodup) {p q : α → Bool} {a : α} (ha : a ∈ l) (hp : p a = false) (hq : q a = true) (h : ∀ x, x ≠ a → q x = p x) : (l.filter q).length = (l.filter p).length + 1 := by
  induction l with
  | nil => exact absurd ha (by simp)
  | cons b t ih =>
    rw [List.nodup_cons] at hn
    rcases List.mem_cons.1 ha with rfl | ha
    · rw [List.filter_cons, if_pos hq, List.filter_cons, if_neg (by simp [hp]), List.length_cons]
      congr 1
      congr 1
      exact List.filter_congr (fun x hx => h x (fun e => hn.1 (e ▸ hx)))
    · have hb : b ≠ a := fun e => hn.1 (e ▸ ha)
      rw [List.filter_cons, List.filter_cons, h b hb]
      split
      · rw [List.length_cons, List.length_cons, ih hn.2 ha]
      · exact ih hn.2 ha
/-- Whether a sector occurs among the first ones of the cache. -/
def seenK (ca : List Ca) (i : Nat) (k : Int) : Bool := (ca.take i).any fun c => decide (c.1 = k)
/-- How many sectors below κ occur among the first ones of the cache. -/
def plc (n : Nat) (ca : List Ca) (κ : Int) (i : Nat) : Nat := ((List.range n).filter fun (k : Nat) => decide ((k : Int) < κ) && seenK ca i (k : Int)).length
theorem seenK_succ {ca : List Ca} {i : Nat} {c : Ca} (h : ca[i]? = some c) (k : Int) : seenK ca (i + 1) k = (seenK ca i k || decide (c.1 = k)) := by
  unfold seenK
  rw [List.take_add_one, h, List.any_append]
  simp
theorem plc_same {n : Nat} {ca : List Ca} {κ : Int} {i : Nat} {c : Ca} (h : ca[i]? = some c) (hc : ¬(c.1 < κ) ∨ seenK ca i c.1 = true) : plc n ca κ (i + 1) = plc n ca κ i := by
  unfold plc
  congr 1
  refine List.filter_congr (fun k _ => ?_)
  rw [seenK_succ h]
  by_cases hk : c.1 = (k : Int)
  · rcases hc with hc | hc
    · rw [← hk, decide_eq_false hc, Bool.false_and, Bool.false_and]
    · rw [← hk, hc, Bool.true_or]
  · rw [decide_eq_false hk, Bool.or_false]
theorem plc_more {n : Nat} {ca : List Ca} {κ : Int} {i : Nat} {c : Ca} (h : ca[i]? = some c) (h0 : 0 ≤ c.1) (h1 : c.1 < n) (hlt : c.1 < κ) (hc : seenK ca i c.1 = false) : plc n ca κ (i + 1) = plc n ca κ i + 1 := by
  obtain ⟨k0, hk0⟩ := Int.eq_ofNat_of_zero_le h0
  unfold plc
  refine filter_one List.nodup_range (a := k0) (List.mem_range.2 (by omega)) ?_ ?_ (fun k hk => ?_)
  · rw [← hk0, hc, Bool.and_false]
  · rw [← hk0, decide_eq_true hlt, seenK_succ h, decide_eq_true rfl, Bool.or_true]
    rfl
  · rw [seenK_succ h, decide_eq_false (show ¬c.1 = (k : Int) by omega), Bool.or_false]
theorem seenK_all (ca : List Ca) (k : Int) : seenK ca ca.length k = !(G ca k).isEmpty := by
  unfold seenK G
  rw [List.take_length]
  induction ca with
  | nil => rfl
  | cons c r ih =>
    rw [List.any_cons, List.filter_cons]
    by_cases h : c.1 = k
    · rw [decide_eq_true h]; simp
    · rw [decide_eq_false h]; simpa using ih
theorem plc_all (n : Nat) (ca : List Ca) (κ : Int) : plc n ca κ ca.length = ((keysL n ca).filter fun x => decide (x < κ)).length := by
  unfold plc keysL
  rw [List.filter_map, List.length_map, List.filter_filter]
  congr 1
  refine List.filter_congr (fun k _ => ?_)
  rw [seenK_all]
  rfl
/-- How many of the first i entries, up to number j, are of sector κ. -/
def ver (ca : List Ca) (κ : Int) (j i : Nat) : Nat := (G (ca.take (min i (j + 1))) κ).length
theorem ver_succ {ca : List Ca} {κ : Int} {j i : Nat} {c : Ca} (h : ca[i]? = some c) : ver ca κ j (i + 1) = ver ca κ j i + if c.1 = κ ∧ i ≤ j then 1 else 0 := by
  unfold ver
  by_cases hij : i ≤ j
  · rw [show min (i + 1) (j + 1) = i + 1 by omega, show min i (j + 1) = i by omega, List.take_add_one, h, Option.toList_some, g_snoc, List.length_append]
    by_cases hc : c.1 = κ
    · rw [if_pos hc, if_pos ⟨hc, hij⟩]; rfl
    · rw [if_neg hc, if_neg (fun x => hc x.1)]; rfl
  · rw [show min (i + 1) (j + 1) = j + 1 by omega, show min i (j + 1) = j + 1 by omega, if_neg (fun x => hij x.2)]
    rfl
theorem g_append (a b : List Ca) (κ : Int) : G (a ++ b) κ = G a κ ++ G b κ := by
  unfold G
  rw [List.filter_append, List.map_append]
theorem ver_all {ca : List Ca} {j : Nat} {c : Ca} (h : ca[j]? = some c) : 1 ≤ ver ca c.1 j ca.length ∧ ver ca c.1 j ca.length ≤ (G ca c.1).length ∧ (G ca c.1).getD (ver ca c.1 j ca.length - 1) [] = c.2 := by
  have hj : j < ca.length := by
    rcases Nat.lt_or_ge j ca.length with h1 | h1
    · exact h1
    · rw [List.getElem?_eq_none h1] at h; exact absurd h (by simp)
  have e : ca = ca.take j ++ c :: ca.drop (j + 1) := by
    rw [show c = ca[j] from by rw [List.getElem?_eq_getElem hj] at h; injection h with h; exact h.symm, List.getElem_cons_drop, List.take_append_drop]
  have hv : ver ca c.1 j ca.length = (G (ca.take j) c.1).length + 1 := by
    unfold ver
    rw [show min ca.length (j + 1) = j + 1 by omega, List.take_add_one, h, Option.toList_some, g_snoc, if_pos rfl, List.length_append]
    rfl
  have hg : G ca c.1 = G (ca.take j) c.1 ++ c.2 :: G (ca.drop (j + 1)) c.1 := by
    conv => lhs; rw [e]
    rw [show ca.take j ++ c :: ca.drop (j + 1) = (ca.take j ++ [c]) ++ ca.drop (j + 1) by simp, g_append, g_snoc, if_pos rfl]
    simp
  refine ⟨by omega, by rw [hv, hg, List.length_append, List.length_cons]; omega, ?_⟩
  rw [hv, hg, Nat.add_sub_cancel, List.getD_eq_getElem?_getD, List.getElem?_append_right (Nat.le_refl _), Nat.sub_self]
  rfl
/-- The choices that pick a version of a sector. -/
theorem chooses_pick {st : List Sect} {ca : List Ca} {j : Nat} {c : Ca} (hk : chkD st.length ca = 0) (h : ca[j]? = some c) (h0 : 0 ≤ c.1) (h1 : c.1 < st.length) : (crashS st ca (List.replicate (plc st.length ca c.1 ca.length) 0 ++ [(ver ca c.1 j ca.length : Int)])).1 = st.set c.1.toNat c.2 := by
  obtain ⟨v1, v2, v3⟩ := ver_all h
  have hne : G ca c.1 ≠ [] := fun e => by rw [e] at v2; simp at v2; omega
  unfold crashS
  rw [if_pos hk, plc_all, ]
  have hs := sorted_split (keysL_sorted st.length ca) (keysL_has h0 h1 hne)
  obtain ⟨k1, hk1⟩ : ∃ k, (keysL st.length ca).filter (fun x => decide (x < c.1)) = k := ⟨_, rfl⟩
  obtain ⟨k2, hk2⟩ : ∃ k, (keysL st.length ca).filter (fun x => decide (c.1 < x)) = k := ⟨_, rfl⟩
  rw [hk1, hk2] at hs
  rw [hk1, hs]
  dsimp only
  rw [crs_pick _ _ _ _ _ _ (by omega) (by omega), show ((ver ca c.1 j ca.length : Int) - 1).toNat = ver ca c.1 j ca.length - 1 by omega, v3]
theorem chooses_none {st : List Sect} {ca : List Ca} {ch : List Int} (h : ∀ x ∈ ch, x = 0) : (crashS st ca ch).1 = st := by
  unfold crashS
  split
  · exact crs_zero _ _ _ _ h
  · rfl
end Go.Proofs.Ytoefbgkeinhibaa
