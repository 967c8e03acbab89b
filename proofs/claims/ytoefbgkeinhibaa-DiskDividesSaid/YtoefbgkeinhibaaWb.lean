/- Lists: what a crash leaves of each sector; a synced disk's crash. -/
import Derived.Test.YtoefbgkeinhibaaWa
import Derived.Test.YtoefbgkeinhibaaR
namespace Go.Proofs.Ytoefbgkeinhibaa
open Go.RowKit Go.Lib
theorem crs_len (ca : List Ca) (ks : List Int) (st : List Sect) (ch : List Int) : (crs ca ks st ch).1.length = st.length := by
  induction ks generalizing st ch with
  | nil => rfl
  | cons κ r ih =>
    rw [crs, ih]
    split
    · rw [List.length_set]
    · rfl
theorem gk_mem {ca : List Ca} {κ : Int} {s : Sect} (h : s ∈ G ca κ) : (κ, s) ∈ ca := by
  unfold G at h
  obtain ⟨x, hx, rfl⟩ := List.mem_map.1 h
  obtain ⟨h1, h2⟩ := List.mem_filter.1 hx
  rw [← of_decide_eq_true h2]
  exact h1
theorem crs_get (ca : List Ca) (ks : List Int) (st : List Sect) (ch : List Int) (i : Nat) (s : Sect) (hk : ∀ κ ∈ ks, 0 ≤ κ) (h : (crs ca ks st ch).1[i]? = some s) : st[i]? = some s ∨ ((i : Int), s) ∈ ca := by
  induction ks generalizing st ch with
  | nil => exact .inl h
  | cons κ r ih =>
    rw [crs] at h
    have h1 := ih _ _ (fun x hx => hk x (List.mem_cons_of_mem _ hx)) h
    rcases h1 with h1 | h1
    · split at h1
      · rename_i hd
        rw [List.getElem?_set] at h1
        split at h1
        · rename_i he
          split at h1
          · have hr := dec_range ch (n := ((G ca κ).length : Int) + 1) (by omega)
            obtain ⟨t, ht⟩ : ∃ t, (dec ch (((G ca κ).length : Int) + 1) - 1).toNat = t := ⟨_, rfl⟩
            have htl : t < (G ca κ).length := by omega
            rw [ht, List.getD_eq_getElem?_getD, List.getElem?_eq_getElem htl, Option.getD_some] at h1
            injection h1 with h1
            have hm : s ∈ G ca κ := by rw [← h1]; exact List.getElem_mem _
            have h0 := hk κ (List.mem_cons_self ..)
            have hm := gk_mem hm
            rw [show κ = (i : Int) by omega] at hm
            exact .inr hm
          · exact absurd h1 (by simp)
        · exact .inl h1
      · exact .inl h1
    · exact .inr h1
theorem keysL_nil (n : Nat) : keysL n [] = [] := by
  unfold keysL G
  simp
theorem crash_synced (st : List Sect) (ch : List Int) (h : st.length ≤ 4096) : crashS st [] ch = (st, [], ch) := by
  unfold crashS
  rw [keysL_nil]
  have : chkD st.length [] = 0 := by
    unfold chkD
    rw [if_neg (by omega)]
    rfl
  rw [if_pos this]
  rfl
/-- Some version of a sector among the first ones of the cache. -/
def anyC (ca : List Ca) (j : Nat) (i : Nat) (s : Sect) : Bool := (ca.take j).any fun c => decide (c.1 = (i : Int)) && decide (c.2 = s)
theorem anyC_succ (ca : List Ca) (j i : Nat) (s : Sect) (c : Ca) (h : ca[j]? = some c) : anyC ca (j + 1) i s = (anyC ca j i s || (decide (c.1 = (i : Int)) && decide (c.2 = s))) := by
  unfold anyC
  rw [List.take_add_one, h, List.any_append]
  simp
theorem anyC_all {ca : List Ca} {i : Nat} {s : Sect} (h : ((i : Int), s) ∈ ca) : anyC ca ca.length i s = true := by
  unfold anyC
  rw [List.take_length, List.any_eq_true]
  exact ⟨_, h, by simp⟩
end Go.Proofs.Ytoefbgkeinhibaa
