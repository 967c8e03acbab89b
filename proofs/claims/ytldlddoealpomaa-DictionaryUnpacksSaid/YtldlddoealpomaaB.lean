/- Codes: numbers, pairs, strings, lists; each is read again, has one encoding alone, and is torn at every proper beginning. -/
import Derived.Test.YtldlddoealpomaaA
namespace Go.Proofs.Ytldlddoealpomaa

/-- What reading yields: the number of an error, or a value and the rest. -/
abbrev Reads (α : Type) := List Nat → Except Int (α × List Nat)
/-- E writes the values that are ok, D reads them. -/
structure Code {α : Type} (ok : α → Prop) (E : α → List Nat) (D : Reads α) : Prop where
  b8 : ∀ a, ok a → B8 (E a)
  back : ∀ a r, ok a → D (E a ++ r) = .ok (a, r)
  once : ∀ s a r, B8 s → D s = .ok (a, r) → s = E a ++ r ∧ ok a
  torn : ∀ a j, ok a → j < (E a).length → D ((E a).take j) = .error 10

/-- A number. -/
def dNum : Reads Nat := fun s => if (rd 8 0 0 s).2.2 = 0 then .ok ((rd 8 0 0 s).1, s.drop (rd 8 0 0 s).2.1) else .error (rd 8 0 0 s).2.2
theorem num_code : Code (fun n => n ≤ top) enc dNum where
  b8 := fun n _ => enc_b8 n
  back := fun n r h => by
    have e := rd_enc r 7 0 0 n (pow8 h) (.inr rfl) (by simpa using h)
    unfold dNum
    rw [e, if_pos rfl]
    simp
  once := fun s n r h8 h => by
    unfold dNum at h
    by_cases h0 : (rd 8 0 0 s).2.2 = 0
    · rw [if_pos h0] at h
      obtain ⟨m, r', hs, hv, hk, ht, _⟩ := rd_once 8 0 0 s _ _ h8 (Prod.ext rfl (Prod.ext rfl h0))
      injection h with h
      injection h with h1 h2
      have hm : m = n := by
        have := h1.symm.trans hv
        simp at this
        exact this.symm
      have h3 : (rd 8 0 0 s).2.1 = (enc m).length := by have := hk; simpa using this
      have ht : n ≤ top := h1 ▸ ht
      rw [h3] at h2
      subst hm
      rw [hs] at h2
      simp at h2
      subst h2
      exact ⟨hs, ht⟩
    · rw [if_neg h0] at h; cases h
  torn := fun n j h hj => by
    unfold dNum
    rw [rd_torn 7 0 0 n j (pow8 h) hj, if_neg (by decide)]

/-- One after the other. -/
def dPair {α β : Type} (D : Reads α) (D' : Reads β) : Reads (α × β) := fun s =>
  match D s with
  | .error e => .error e
  | .ok (a, s) => match D' s with
    | .error e => .error e
    | .ok (b, r) => .ok ((a, b), r)
theorem dPair_err {α β : Type} {D : Reads α} {D' : Reads β} {s : List Nat} {e : Int} (h : D s = .error e) : dPair D D' s = .error e := by
  unfold dPair; rw [h]
theorem dPair_err' {α β : Type} {D : Reads α} {D' : Reads β} {s t : List Nat} {a : α} {e : Int} (h : D s = .ok (a, t)) (h' : D' t = .error e) : dPair D D' s = .error e := by
  unfold dPair; simp only [h, h']
theorem dPair_ok {α β : Type} {D : Reads α} {D' : Reads β} {s t r : List Nat} {a : α} {b : β} (h : D s = .ok (a, t)) (h' : D' t = .ok (b, r)) : dPair D D' s = .ok ((a, b), r) := by
  unfold dPair; simp only [h, h']
theorem dPair_inv {α β : Type} {D : Reads α} {D' : Reads β} {s r : List Nat} {x : α × β} (h : dPair D D' s = .ok (x, r)) : ∃ t, D s = .ok (x.1, t) ∧ D' t = .ok (x.2, r) := by
  unfold dPair at h
  rcases h1 : D s with e | ⟨a, t⟩
  · rw [h1] at h; cases h
  · rw [h1] at h
    simp only at h
    rcases h2 : D' t with e | ⟨b, r'⟩
    · rw [h2] at h; cases h
    · rw [h2] at h
      cases h
      exact ⟨t, rfl, h2⟩
theorem pair_code {α β : Type} {ok : α → Prop} {ok' : β → Prop} {E : α → List Nat} {E' : β → List Nat} {D : Reads α} {D' : Reads β} (C : Code ok E D) (C' : Code ok' E' D') :
    Code (fun x : α × β => ok x.1 ∧ ok' x.2) (fun x => E x.1 ++ E' x.2) (dPair D D') where
  b8 := fun x h => (C.b8 _ h.1).append (C'.b8 _ h.2)
  back := fun x r h => by rw [List.append_assoc]; exact dPair_ok (C.back _ _ h.1) (C'.back _ _ h.2)
  once := fun s x r h8 h => by
    obtain ⟨t, h1, h2⟩ := dPair_inv h
    obtain ⟨rfl, o1⟩ := C.once _ _ _ h8 h1
    obtain ⟨rfl, o2⟩ := C'.once _ _ _ h8.right h2
    exact ⟨(List.append_assoc _ _ _).symm, o1, o2⟩
  torn := fun x j h hj => by
    rw [List.length_append] at hj
    rw [List.take_append]
    by_cases hl : j < (E x.1).length
    · rw [show j - (E x.1).length = 0 by omega, List.take_zero, List.append_nil]
      exact dPair_err (C.torn _ _ h.1 hl)
    · rw [List.take_of_length_le (by omega)]
      exact dPair_err' (C.back _ _ h.1) (C'.torn _ _ h.2 (by omega))

/-- k bytes. -/
def dTake (k : Nat) : Reads (List Nat) := fun s => if s.length < k then .error 10 else .ok (s.take k, s.drop k)
theorem take_code (k : Nat) : Code (fun l => l.length = k ∧ B8 l) (fun l => l) (dTake k) where
  b8 := fun _ h => h.2
  back := fun l r h => by
    unfold dTake
    rw [if_neg (by rw [List.length_append]; omega), ← h.1]
    simp
  once := fun s l r h8 h => by
    unfold dTake at h
    by_cases hl : s.length < k
    · rw [if_pos hl] at h; cases h
    · rw [if_neg hl] at h
      cases h
      exact ⟨(List.take_append_drop k s).symm, by rw [List.length_take]; omega, fun x hx => h8 x (List.mem_of_mem_take hx)⟩
  torn := fun l j h hj => by
    unfold dTake
    rw [if_pos (by rw [List.length_take]; omega)]

/-- n elements. -/
def dMany {α : Type} (D : Reads α) : Nat → Reads (List α)
  | 0 => fun s => .ok ([], s)
  | n + 1 => fun s => match D s with
    | .error e => .error e
    | .ok (x, t) => match dMany D n t with
      | .error e => .error e
      | .ok (l, r) => .ok (x :: l, r)
def eMany {α : Type} (E : α → List Nat) (l : List α) : List Nat := (l.map E).flatten
theorem many_code {α : Type} {ok : α → Prop} {E : α → List Nat} {D : Reads α} (C : Code ok E D) (n : Nat) : Code (fun l : List α => l.length = n ∧ ∀ x ∈ l, ok x) (eMany E) (dMany D n) := by
  induction n with
  | zero =>
    refine ⟨fun l h => ?_, fun l r h => ?_, fun s l r h8 h => ?_, fun l j h hj => ?_⟩
    · rw [List.eq_nil_of_length_eq_zero h.1]; intro x hx; simp [eMany] at hx
    · rw [List.eq_nil_of_length_eq_zero h.1]; simp [eMany, dMany]
    · simp only [dMany] at h
      cases h
      exact ⟨by simp [eMany], rfl, fun x hx => by cases hx⟩
    · rw [List.eq_nil_of_length_eq_zero h.1] at hj; simp [eMany] at hj
  | succ n ih =>
    refine ⟨fun l h => ?_, fun l r h => ?_, fun s l r h8 h => ?_, fun l j h hj => ?_⟩
    · intro x hx
      obtain ⟨y, hy, hx⟩ := List.mem_flatten.1 hx
      obtain ⟨a, ha, rfl⟩ := List.mem_map.1 hy
      exact C.b8 a (h.2 a ha) x hx
    · rcases l with _ | ⟨x, l⟩
      · simp at h
      · have hx := h.2 x (List.mem_cons.2 (.inl rfl))
        have hl : l.length = n ∧ ∀ y ∈ l, ok y := ⟨by simpa using h.1, fun y hy => h.2 y (List.mem_cons.2 (.inr hy))⟩
        have e : eMany E (x :: l) ++ r = E x ++ (eMany E l ++ r) := by simp [eMany]
        rw [e, dMany]
        simp only [C.back _ _ hx, ih.back l r hl]
    · rw [dMany] at h
      rcases h1 : D s with e | ⟨x, t⟩
      · simp only [h1] at h; cases h
      · simp only [h1] at h
        rcases h2 : dMany D n t with e | ⟨l', r'⟩
        · simp only [h2] at h; cases h
        · simp only [h2] at h
          cases h
          obtain ⟨rfl, ox⟩ := C.once _ _ _ h8 h1
          obtain ⟨rfl, hl, ol⟩ := ih.once _ _ _ h8.right h2
          refine ⟨by simp [eMany], by simp [hl], fun y hy => ?_⟩
          rcases List.mem_cons.1 hy with rfl | hy
          · exact ox
          · exact ol y hy
    · rcases l with _ | ⟨x, l⟩
      · simp at h
      · have hx := h.2 x (List.mem_cons.2 (.inl rfl))
        have hl : l.length = n ∧ ∀ y ∈ l, ok y := ⟨by simpa using h.1, fun y hy => h.2 y (List.mem_cons.2 (.inr hy))⟩
        have e : eMany E (x :: l) = E x ++ eMany E l := by simp [eMany]
        rw [e, List.length_append] at hj
        rw [e, List.take_append, dMany]
        by_cases hlt : j < (E x).length
        · rw [show j - (E x).length = 0 by omega, List.take_zero, List.append_nil]
          simp only [C.torn _ _ hx hlt]
        · rw [List.take_of_length_le (by omega)]
          simp only [C.back _ _ hx, ih.torn l (j - (E x).length) hl (by omega)]

/-- A length, and what it is the length of. -/
def dLen {α : Type} (D : Nat → Reads α) : Reads α := fun s =>
  match dNum s with
  | .error e => .error e
  | .ok (n, t) => if 65536 < n then .error 5 else D n t
theorem len_code {α : Type} {ok : Nat → α → Prop} {E : α → List Nat} {D : Nat → Reads α} {ln : α → Nat} (hln : ∀ n a, ok n a → ln a = n) (C : ∀ n, Code (ok n) E (D n)) :
    Code (fun a => ln a ≤ 65536 ∧ ok (ln a) a) (fun a => enc (ln a) ++ E a) (dLen D) where
  b8 := fun a h => (enc_b8 _).append ((C _).b8 _ h.2)
  back := fun a r h => by
    rw [List.append_assoc]
    unfold dLen
    simp only [num_code.back (ln a) (E a ++ r) (by unfold top; omega)]
    rw [if_neg (by omega)]
    exact (C _).back _ _ h.2
  once := fun s a r h8 h => by
    unfold dLen at h
    rcases h1 : dNum s with e | ⟨n, t⟩
    · simp only [h1] at h; cases h
    · simp only [h1] at h
      by_cases hn : 65536 < n
      · rw [if_pos hn] at h; cases h
      · rw [if_neg hn] at h
        obtain ⟨rfl, _⟩ := num_code.once _ _ _ h8 h1
        obtain ⟨rfl, o⟩ := (C n).once _ _ _ h8.right h
        obtain rfl := hln n a o
        exact ⟨(List.append_assoc _ _ _).symm, by omega, o⟩
  torn := fun a j h hj => by
    rw [List.length_append] at hj
    rw [List.take_append]
    unfold dLen
    have ht : ln a ≤ top := by unfold top; omega
    by_cases hl : j < (enc (ln a)).length
    · rw [show j - (enc (ln a)).length = 0 by omega, List.take_zero, List.append_nil]
      simp only [num_code.torn _ _ ht hl]
    · rw [List.take_of_length_le (by omega)]
      simp only [num_code.back _ _ ht]
      rw [if_neg (by omega)]
      exact (C _).torn _ _ h.2 (by omega)

/-! What layer 3 writes and reads. -/
def dBytes : Reads (List Nat) := dLen dTake
def eBytes (l : List Nat) : List Nat := enc l.length ++ l
theorem bytes_code : Code (fun l : List Nat => l.length ≤ 65536 ∧ l.length = l.length ∧ B8 l) eBytes dBytes :=
  len_code (ok := fun n l => l.length = n ∧ B8 l) (fun _ _ h => h.1) take_code
def dList {α : Type} (D : Reads α) : Reads (List α) := dLen (dMany D)
def eList {α : Type} (E : α → List Nat) (l : List α) : List Nat := enc l.length ++ eMany E l
theorem list_code {α : Type} {ok : α → Prop} {E : α → List Nat} {D : Reads α} (C : Code ok E D) : Code (fun l : List α => l.length ≤ 65536 ∧ l.length = l.length ∧ ∀ x ∈ l, ok x) (eList E) (dList D) :=
  len_code (ok := fun n (l : List α) => l.length = n ∧ ∀ x ∈ l, ok x) (fun _ _ h => h.1) (many_code C)
/-- An extent. -/
def eExt (e : Nat × Nat) : List Nat := enc e.1 ++ enc e.2
def dExt : Reads (Nat × Nat) := dPair dNum dNum
theorem ext_code : Code (fun e : Nat × Nat => e.1 ≤ top ∧ e.2 ≤ top) eExt dExt := pair_code num_code num_code
/-- A sector; a list of them. -/
def dSec : Reads (List Nat) := dTake 8
theorem sec_code : Code (fun l : List Nat => l.length = 8 ∧ B8 l) (fun l => l) dSec := take_code 8
/-- A write: its volume, its start, its sectors. -/
def eWr (x : (Nat × Nat) × List (List Nat)) : List Nat := eExt x.1 ++ eList (fun l => l) x.2
def dWr : Reads ((Nat × Nat) × List (List Nat)) := dPair dExt (dList dSec)
theorem wr_code : Code (fun x : (Nat × Nat) × List (List Nat) => (x.1.1 ≤ top ∧ x.1.2 ≤ top) ∧ x.2.length ≤ 65536 ∧ x.2.length = x.2.length ∧ ∀ l ∈ x.2, l.length = 8 ∧ B8 l) eWr dWr := pair_code ext_code (list_code sec_code)

end Go.Proofs.Ytldlddoealpomaa
