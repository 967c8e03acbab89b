/- Superblock on lists: the sectors of a copy, its content, when it is valid. -/
import Derived.Test.YtnocgfhcamnjdaaAd
namespace Go.Proofs.Ytnocgfhcamnjdaa
open Go.RowKit Go.Lib

/-- The four bytes of a number. -/
def le4 (g : Nat) : List Nat := [g % 256, g / 256 % 256, g / 65536 % 256, g / 16777216 % 256]
theorem le4_len (g : Nat) : (le4 g).length = 4 := rfl
theorem le4_b8 (g : Nat) : B8 (le4 g) := fun x hx => by
  unfold le4 at hx
  simp only [List.mem_cons, List.not_mem_nil, or_false] at hx
  rcases hx with rfl | rfl | rfl | rfl <;> exact Nat.mod_lt _ (by decide)
theorem num4_le4 {g : Nat} (h : g < 4294967296) (x : List Nat) : num4 (le4 g ++ x) = g := by
  unfold num4 le4
  simp only [List.cons_append, List.nil_append, List.getD_cons_zero, List.getD_cons_succ]
  omega
/-- The sectors of some bytes, four in each. -/
def secsN (g : Nat) : Nat → List Nat → List Sect
  | 0, _ => []
  | n + 1, c => (le4 g ++ c.take 4) :: secsN g n (c.drop 4)
theorem secsN_len (g : Nat) : ∀ (n : Nat) (c : List Nat), (secsN g n c).length = n
  | 0, _ => rfl
  | n + 1, c => by rw [secsN, List.length_cons, secsN_len g n]
theorem secsN_secs (g : Nat) : ∀ (n : Nat) (c : List Nat), B8 c → c.length = 4 * n → Secs (secsN g n c)
  | 0, _, _, _ => fun s hs => by cases hs
  | n + 1, c, h, hl => fun s hs => by
    rw [secsN] at hs
    rcases List.mem_cons.1 hs with rfl | hs
    · exact ⟨by rw [List.length_append, le4_len, List.length_take]; omega, (le4_b8 g).append (fun x hx => h x (List.mem_of_mem_take hx))⟩
    · exact secsN_secs g n _ (fun x hx => h x (List.mem_of_mem_drop hx)) (by rw [List.length_drop]; omega) s hs
theorem secsN_dat (g : Nat) : ∀ (n : Nat) (c : List Nat), c.length = 4 * n → dat (secsN g n c) = c
  | 0, c, hl => by rw [List.eq_nil_of_length_eq_zero (by omega : c.length = 0)]; rfl
  | n + 1, c, hl => by
    have ih := secsN_dat g n (c.drop 4) (by rw [List.length_drop]; omega)
    unfold dat at ih ⊢
    rw [secsN, List.map_cons, List.flatten_cons, ih, List.drop_append_of_le_length (by rw [le4_len]; omega), List.drop_of_length_le (by rw [le4_len]; omega), List.nil_append, List.take_append_drop]
theorem secsN_num {g : Nat} (hg : g < 4294967296) : ∀ (n : Nat) (c : List Nat), ∀ s ∈ secsN g n c, num4 s = g
  | 0, _, s, hs => by cases hs
  | n + 1, c, s, hs => by
    rw [secsN] at hs
    rcases List.mem_cons.1 hs with rfl | hs
    · exact num4_le4 hg _
    · exact secsN_num hg n _ s hs
/-- The content of a payload. -/
def conL (p : List Nat) : List Nat := p.length :: p ++ List.replicate (31 - p.length) 0
theorem conL_len {p : List Nat} (h : p.length ≤ 31) : (conL p).length = 32 := by
  unfold conL
  rw [List.length_append, List.length_cons, List.length_replicate]
  omega
theorem conL_b8 {p : List Nat} (h : p.length ≤ 31) (hp : B8 p) : B8 (conL p) := fun x hx => by
  unfold conL at hx
  rcases List.mem_append.1 hx with hx | hx
  · rcases List.mem_cons.1 hx with rfl | hx
    · omega
    · exact hp x hx
  · rw [List.eq_of_mem_replicate hx]; decide
/-- The payload of a content. -/
def payL (c : List Nat) : List Nat := (c.drop 1).take (c.getD 0 0)
theorem payL_conL {p : List Nat} : payL (conL p) = p := by
  unfold payL conL
  rw [List.cons_append, List.drop_succ_cons, List.drop_zero, List.getD_cons_zero, List.take_left']
  rfl
/-- Whether a content is one of a payload. -/
def valB (c : List Nat) : Bool := decide (c.getD 0 0 ≤ 31) && decide (c = conL (payL c))
theorem valB_conL {p : List Nat} (h : p.length ≤ 31) : valB (conL p) = true := by
  unfold valB
  rw [payL_conL, decide_eq_true rfl, Bool.and_true, decide_eq_true_iff]
  unfold conL
  rw [List.cons_append, List.getD_cons_zero]
  exact h
/-- The reference's way: all bytes behind the payload are zero. -/
theorem valB_zero {c : List Nat} (h : c.length = 32) : valB c = true ↔ c.getD 0 0 ≤ 31 ∧ ∀ i, c.getD 0 0 + 1 ≤ i → i < 32 → c.getD i 0 = 0 := by
  obtain ⟨n, r, rfl⟩ : ∃ n r, c = n :: r := by
    rcases c with _ | ⟨n, r⟩
    · simp at h
    · exact ⟨n, r, rfl⟩
  rw [List.length_cons] at h
  unfold valB
  rw [Bool.and_eq_true, decide_eq_true_iff, decide_eq_true_iff, List.getD_cons_zero]
  refine and_congr_right (fun hn => ?_)
  have hp : payL (n :: r) = r.take n := by unfold payL; rw [List.drop_succ_cons, List.drop_zero, List.getD_cons_zero]
  have hpl : (r.take n).length = n := by rw [List.length_take]; omega
  rw [hp]
  unfold conL
  rw [hpl, List.cons_append]
  constructor
  · intro e i h1 h2
    injection e with _ e
    obtain ⟨j, rfl⟩ : ∃ j, i = j + 1 := ⟨i - 1, by omega⟩
    rw [List.getD_cons_succ, e, List.getD_eq_getElem?_getD, List.getElem?_append_right (by rw [hpl]; omega), hpl, List.getElem?_replicate]
    split <;> rfl
  · intro hz
    congr 1
    apply List.ext_getElem?
    intro j
    by_cases hj : j < n
    · rw [List.getElem?_append_left (by rw [hpl]; exact hj), List.getElem?_take, if_pos hj]
    · rw [List.getElem?_append_right (by rw [hpl]; omega), hpl, List.getElem?_replicate]
      by_cases hj2 : j < 31
      · rw [if_pos (by omega)]
        have h1 := hz (j + 1) (by omega) (by omega)
        rw [List.getD_cons_succ, List.getD_eq_getElem?_getD, List.getElem?_eq_getElem (by omega), Option.getD_some] at h1
        rw [List.getElem?_eq_getElem (by omega), h1]
      · rw [if_neg (by omega), List.getElem?_eq_none (by omega)]
/-- A copy: its payload and its generation, if it is valid. -/
def copyL (l : List Sect) : Option (List Nat × Nat) := if (∀ s ∈ l, num4 s = num4 (l.getD 0 [])) ∧ valB (dat l) = true ∧ 0 < num4 (l.getD 0 []) then some (payL (dat l), num4 (l.getD 0 [])) else none
theorem copyL_secs {p : List Nat} {g : Nat} (h : p.length ≤ 31) (hg : g < 4294967296) (h0 : 0 < g) : copyL (secsN g 8 (conL p)) = some (p, g) := by
  have e : num4 ((secsN g 8 (conL p)).getD 0 []) = g := secsN_num hg 8 (conL p) _ (by rw [secsN, List.getD_cons_zero]; exact List.mem_cons_self ..)
  have ed : dat (secsN g 8 (conL p)) = conL p := secsN_dat g 8 _ (conL_len h)
  unfold copyL
  rw [e, ed, if_pos ⟨secsN_num hg 8 _, valB_conL h, h0⟩, payL_conL]
end Go.Proofs.Ytnocgfhcamnjdaa
