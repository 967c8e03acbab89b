/- Records as functions on lists of numbers. -/
import Derived.Test.YtcmmkeadbedooaaB
namespace Go.Proofs.Ytcmmkeadbedooaa

/-- k bytes of a number, the least significant one first. -/
def le : Nat → Nat → List Nat
  | 0, _ => []
  | k + 1, n => n % 256 :: le k (n / 256)
/-- The number with some bytes. -/
def ge : List Nat → Nat
  | [] => 0
  | b :: t => b + 256 * ge t
theorem le_length (k : Nat) : ∀ n, (le k n).length = k := by
  induction k with
  | zero => intro n; rfl
  | succ k ih => intro n; rw [le, List.length_cons, ih]
theorem le_b8 (k : Nat) : ∀ n, B8 (le k n) := by
  induction k with
  | zero => intro n x hx; cases hx
  | succ k ih =>
    intro n x hx
    rw [le] at hx
    rcases List.mem_cons.1 hx with rfl | hx
    · omega
    · exact ih _ x hx
theorem ge_le (k : Nat) : ∀ n, n < 256 ^ k → ge (le k n) = n := by
  induction k with
  | zero => intro n h; rw [le, ge]; omega
  | succ k ih =>
    intro n h
    rw [le, ge, ih (n / 256) (by rw [Nat.div_lt_iff_lt_mul (by omega)]; rw [Nat.pow_succ] at h; exact h)]
    omega
theorem ge_lt {l : List Nat} (h : B8 l) : ge l < 256 ^ l.length := by
  induction l with
  | nil => rw [ge]; simp
  | cons b t ih =>
    have h1 := h b (List.mem_cons_self ..)
    have h2 := ih (fun x hx => h x (List.mem_cons_of_mem _ hx))
    rw [ge, List.length_cons, Nat.pow_succ]
    omega
theorem ge_inj : ∀ {l m : List Nat}, l.length = m.length → B8 l → B8 m → ge l = ge m → l = m := by
  intro l
  induction l with
  | nil => intro m h _ _ _; exact (List.eq_nil_of_length_eq_zero (by simpa using h.symm)).symm
  | cons b t ih =>
    intro m h h1 h2 e
    rcases m with _ | ⟨c, u⟩
    · simp at h
    · have b1 := h1 b (List.mem_cons_self ..)
      have b2 := h2 c (List.mem_cons_self ..)
      rw [ge, ge] at e
      have e1 : b = c := by omega
      have e2 : ge t = ge u := by omega
      rw [e1, ih (by simpa using h) (fun x hx => h1 x (List.mem_cons_of_mem _ hx)) (fun x hx => h2 x (List.mem_cons_of_mem _ hx)) e2]
theorem le_ge {l : List Nat} (h : B8 l) : le l.length (ge l) = l :=
  ge_inj (le_length _ _) (le_b8 _ _) h (ge_le _ _ (ge_lt h))
theorem ge_snoc (l : List Nat) (b : Nat) : ge (l ++ [b]) = ge l + b * 256 ^ l.length := by
  induction l with
  | nil => rw [List.nil_append, ge, ge, ge]; simp
  | cons a t ih =>
    rw [List.cons_append, ge, ge, ih, List.length_cons, Nat.pow_succ]
    have e : b * (256 ^ t.length * 256) = 256 * (b * 256 ^ t.length) := by rw [← Nat.mul_assoc, Nat.mul_comm]
    rw [e]
    omega

/-- The number of sectors of a record with a payload of n bytes. -/
def size (n : Nat) : Nat := (n + 10) / 4
/-- Kind, length, payload. -/
def stm (k : Nat) (p : List Nat) : List Nat := le 1 k ++ (le 2 p.length ++ p)
def ful (k : Nat) (p : List Nat) : List Nat := stm k p ++ le 4 (sum0 (stm k p))
def pad (n : Nat) (l : List Nat) : List Nat := l ++ List.replicate (n - l.length) 0
/-- n sectors with the number q and the bytes of l. -/
def pk (q : Nat) : Nat → List Nat → List Sect
  | 0, _ => []
  | n + 1, l => (le 4 q ++ l.take 4) :: pk q n (l.drop 4)
def encR (k q : Nat) (p : List Nat) : List Sect := pk q (size p.length) (pad (4 * size p.length) (ful k p))
theorem stm_len (k : Nat) (p : List Nat) : (stm k p).length = 3 + p.length := by
  unfold stm; rw [List.length_append, List.length_append, le_length, le_length]; omega
theorem ful_len (k : Nat) (p : List Nat) : (ful k p).length = 7 + p.length := by
  unfold ful; rw [List.length_append, stm_len, le_length]; omega
theorem pad_len {n : Nat} {l : List Nat} (h : l.length ≤ n) : (pad n l).length = n := by
  unfold pad; rw [List.length_append, List.length_replicate]; omega
theorem pk_len (q n : Nat) : ∀ l, (pk q n l).length = n := by
  induction n with
  | zero => intro l; rfl
  | succ n ih => intro l; rw [pk, List.length_cons, ih]
theorem encR_len (k q : Nat) (p : List Nat) : (encR k q p).length = size p.length := pk_len _ _ _
theorem size_le (n : Nat) : 7 + n ≤ 4 * size n := by unfold size; omega
theorem b8_drop {l : List Nat} (h : B8 l) (n : Nat) : B8 (l.drop n) := fun x hx => h x (List.mem_of_mem_drop hx)
theorem b8_take {l : List Nat} (h : B8 l) (n : Nat) : B8 (l.take n) := fun x hx => h x (List.mem_of_mem_take hx)
theorem b8_append {a b : List Nat} (ha : B8 a) (hb : B8 b) : B8 (a ++ b) := fun x hx => (List.mem_append.1 hx).elim (ha x) (hb x)
theorem b8_stm {k : Nat} {p : List Nat} (h : B8 p) : B8 (stm k p) := b8_append (le_b8 _ _) (b8_append (le_b8 _ _) h)
theorem b8_ful {k : Nat} {p : List Nat} (h : B8 p) : B8 (ful k p) := b8_append (b8_stm h) (le_b8 _ _)
theorem b8_pad {n : Nat} {l : List Nat} (h : B8 l) : B8 (pad n l) := b8_append h (fun x hx => by rw [List.eq_of_mem_replicate hx]; decide)
theorem pk_secs (q n : Nat) : ∀ l, B8 l → l.length = 4 * n → Secs (pk q n l) := by
  induction n with
  | zero => intro l _ _ x hx; cases hx
  | succ n ih =>
    intro l h8 hl x hx
    rw [pk] at hx
    rcases List.mem_cons.1 hx with rfl | hx
    · exact ⟨by rw [List.length_append, le_length, List.length_take]; omega, b8_append (le_b8 _ _) (b8_take h8 _)⟩
    · exact ih _ (b8_drop h8 _) (by rw [List.length_drop]; omega) x hx
theorem encR_secs {k q : Nat} {p : List Nat} (h : B8 p) : Secs (encR k q p) :=
  pk_secs _ _ _ (b8_pad (b8_ful h)) (pad_len (by rw [ful_len]; exact size_le _))

/- Reading. -/
def num (s : List Nat) : Nat := ge (s.take 4)
/-- The bytes of sectors beside their numbers. -/
def dts (l : List Sect) : List Nat := (l.map (fun s => s.drop 4)).flatten
def lenOf (s : List Nat) : Nat := ge ((s.drop 5).take 2)
def others (q : Nat) (l : List Sect) : Bool := l.any (fun x => num x != q)
def some0 (l : List Nat) : Bool := l.any (fun x => x != 0)
abbrev Rc := Nat × Nat × List Nat
/-- The record in the bytes b of n sectors. -/
def dB (q n m : Nat) (b : List Nat) : Except Int (Rc × Nat) :=
  if ge ((b.drop (3 + m)).take 4) ≠ sum0 (b.take (3 + m)) then .error 9
  else if ge (b.take 1) = 0 ∨ some0 (b.drop (7 + m)) = true then .error 3
  else .ok ((ge (b.take 1), q, (b.drop 3).take m), n)
def dS (s : Sect) (l : List Sect) : Except Int (Rc × Nat) :=
  if num s = 0 then .error 7
  else if 4096 < lenOf s then .error 5
  else if l.length < size (lenOf s) ∨ others (num s) (l.take (size (lenOf s))) = true then .error 10
  else dB (num s) (size (lenOf s)) (lenOf s) (dts (l.take (size (lenOf s))))
def dR : List Sect → Except Int (Rc × Nat)
  | [] => .error 10
  | s :: t => dS s (s :: t)

theorem dts_pk (q n : Nat) : ∀ l, l.length = 4 * n → dts (pk q n l) = l := by
  induction n with
  | zero => intro l h; exact (List.eq_nil_of_length_eq_zero (by omega)).symm
  | succ n ih =>
    intro l h
    have hd : (le 4 q ++ l.take 4).drop 4 = l.take 4 := by
      rw [List.drop_append_of_le_length (by rw [le_length]; omega), List.drop_of_length_le (by rw [le_length]; omega), List.nil_append]
    unfold dts
    rw [pk, List.map_cons, List.flatten_cons, hd]
    have := ih (l.drop 4) (by rw [List.length_drop]; omega)
    unfold dts at this
    rw [this, List.take_append_drop]
theorem num_pk (q n : Nat) (hq : q < 4294967296) : ∀ l, ∀ s ∈ pk q n l, num s = q := by
  induction n with
  | zero => intro l s hs; cases hs
  | succ n ih =>
    intro l s hs
    rw [pk] at hs
    rcases List.mem_cons.1 hs with rfl | hs
    · unfold num
      rw [List.take_append_of_le_length (by rw [le_length]; omega), List.take_of_length_le (by rw [le_length]; omega), ge_le _ _ (by simpa using hq)]
    · exact ih _ s hs
theorem others_pk {q n : Nat} (hq : q < 4294967296) (l : List Nat) : others q (pk q n l) = false := by
  unfold others
  rw [List.any_eq_false]
  intro x hx
  simp [num_pk q n hq l x hx]
theorem size_pos (n : Nat) : 0 < size n := by unfold size; omega
theorem encR_cons (k q : Nat) (p : List Nat) : ∃ t, encR k q p = (le 4 q ++ (ful k p).take 4) :: t := by
  have hs := size_pos p.length
  unfold encR
  obtain ⟨m, hm⟩ : ∃ m, size p.length = m + 1 := ⟨size p.length - 1, by omega⟩
  rw [hm, pk]
  have e : (pad (4 * (m + 1)) (ful k p)).take 4 = (ful k p).take 4 := by unfold pad; rw [List.take_append_of_le_length (by rw [ful_len]; omega)]
  rw [e]
  exact ⟨_, rfl⟩
theorem lenOf_head (k q : Nat) (p : List Nat) (hp : p.length ≤ 4096) : lenOf (le 4 q ++ (ful k p).take 4) = p.length := by
  unfold lenOf
  have h1 : (le 4 q ++ (ful k p).take 4).drop 5 = ((ful k p).take 4).drop 1 := by
    rw [List.drop_append, le_length, List.drop_of_length_le (by rw [le_length]; omega), List.nil_append]
  have h2 : (((ful k p).take 4).drop 1).take 2 = le 2 p.length := by
    have e : ful k p = le 1 k ++ (le 2 p.length ++ (p ++ le 4 (sum0 (stm k p)))) := by unfold ful stm; simp [List.append_assoc]
    rw [List.drop_take, e, List.drop_append_of_le_length (by rw [le_length]; omega), List.drop_of_length_le (by rw [le_length]; omega), List.nil_append, List.take_take, show min 2 (4 - 1) = 2 by rfl, List.take_append_of_le_length (by rw [le_length]; omega), List.take_of_length_le (by rw [le_length]; omega)]
  rw [h1, h2, ge_le _ _ (by omega)]
theorem num_head (k q : Nat) (p : List Nat) (hq : q < 4294967296) : num (le 4 q ++ (ful k p).take 4) = q := by
  unfold num
  rw [List.take_append_of_le_length (by rw [le_length]; omega), List.take_of_length_le (by rw [le_length]; omega), ge_le _ _ (by simpa using hq)]
theorem sum0_lt' {l : List Nat} (h : B8 l) : sum0 l < 256 ^ 4 := by
  have hc : ∀ x, x < 4294967296 → comp x < 4294967296 := fun x hx => comp_lt hx
  unfold sum0 upd
  exact hc _ (crc_lt (hc _ (by decide)) h)
theorem take1_ful {k : Nat} {p : List Nat} : (pad (4 * size p.length) (ful k p)).take 1 = le 1 k := by
  unfold pad ful stm
  rw [List.append_assoc, List.append_assoc, List.take_append_of_le_length (by rw [le_length]; omega), List.take_of_length_le (by rw [le_length]; omega)]
theorem dB_enc {k q n : Nat} {p : List Nat} (h8 : B8 p) (hk0 : 0 < k) (hk : k < 256) : dB q n p.length (pad (4 * size p.length) (ful k p)) = .ok ((k, q, p), n) := by
  have hsl := stm_len k p
  have hfl := ful_len k p
  have e1 : (pad (4 * size p.length) (ful k p)).take (3 + p.length) = stm k p := by
    unfold pad ful
    rw [List.append_assoc, List.take_append_of_le_length (by omega), List.take_of_length_le (by omega)]
  have e2 : ((pad (4 * size p.length) (ful k p)).drop (3 + p.length)).take 4 = le 4 (sum0 (stm k p)) := by
    unfold pad
    rw [List.drop_append_of_le_length (by omega)]
    unfold ful
    rw [List.drop_append_of_le_length (by omega), List.drop_of_length_le (by omega), List.nil_append, List.take_append_of_le_length (by rw [le_length]; omega), List.take_of_length_le (by rw [le_length]; omega)]
  have e3 : some0 ((pad (4 * size p.length) (ful k p)).drop (7 + p.length)) = false := by
    unfold pad some0
    rw [List.drop_append_of_le_length (by omega), List.drop_of_length_le (by omega), List.nil_append, List.any_eq_false]
    intro x hx
    simp [List.eq_of_mem_replicate hx]
  have e4 : ((pad (4 * size p.length) (ful k p)).drop 3).take p.length = p := by
    have e : pad (4 * size p.length) (ful k p) = (le 1 k ++ le 2 p.length) ++ (p ++ (le 4 (sum0 (stm k p)) ++ List.replicate (4 * size p.length - (ful k p).length) 0)) := by unfold pad ful stm; simp [List.append_assoc]
    rw [e, List.drop_append_of_le_length (by rw [List.length_append, le_length, le_length]; omega), List.drop_of_length_le (by rw [List.length_append, le_length, le_length]; omega), List.nil_append, List.take_append_of_le_length (Nat.le_refl _), List.take_of_length_le (Nat.le_refl _)]
  have e5 : ge (le 1 k) = k := ge_le _ _ (by simpa using hk)
  unfold dB
  rw [e1, e2, e3, e4, take1_ful, e5, ge_le _ _ (sum0_lt' (b8_stm h8)), if_neg (by simp), if_neg (by simp; omega)]
theorem dS_pre {s : Sect} {l : List Sect} (h0 : num s ≠ 0) (hl : lenOf s ≤ 4096) (hn : size (lenOf s) ≤ l.length) (ho : others (num s) (l.take (size (lenOf s))) = false) :
    dS s l = dB (num s) (size (lenOf s)) (lenOf s) (dts (l.take (size (lenOf s)))) := by
  unfold dS
  rw [if_neg h0, if_neg (by omega), if_neg (by rw [ho]; simp; omega)]
/-- The sectors of a record, whatever follows, are the record. -/
theorem dR_enc {k q : Nat} {p : List Nat} (h8 : B8 p) (hp : p.length ≤ 4096) (hk0 : 0 < k) (hk : k < 256) (hq0 : 0 < q) (hq : q < 4294967296) (r : List Sect) : dR (encR k q p ++ r) = .ok ((k, q, p), size p.length) := by
  obtain ⟨t, ht⟩ := encR_cons k q p
  have hlo := lenOf_head k q p hp
  have hnu := num_head k q p hq
  have hL := encR_len k q p
  have htk : (encR k q p ++ r).take (size p.length) = encR k q p := by rw [List.take_append_of_le_length (by omega), List.take_of_length_le (by omega)]
  have e : dR (encR k q p ++ r) = dS (le 4 q ++ (ful k p).take 4) (encR k q p ++ r) := by rw [ht]; rfl
  rw [e, dS_pre (by rw [hnu]; omega) (by rw [hlo]; exact hp) (by rw [hlo, List.length_append]; omega) (by rw [hlo, hnu, htk]; exact others_pk hq _), hlo, hnu, htk]
  unfold encR
  rw [dts_pk _ _ _ (pad_len (by rw [ful_len]; exact size_le _))]
  exact dB_enc h8 hk0 hk
theorem dR_enc0 {k q : Nat} {p : List Nat} (h8 : B8 p) (hp : p.length ≤ 4096) (hk0 : 0 < k) (hk : k < 256) (hq0 : 0 < q) (hq : q < 4294967296) : dR (encR k q p) = .ok ((k, q, p), size p.length) := by
  have := dR_enc h8 hp hk0 hk hq0 hq []
  rwa [List.append_nil] at this
/-- With fewer sectors it is torn. -/
theorem dR_torn {k q : Nat} {p : List Nat} (hp : p.length ≤ 4096) (hq0 : 0 < q) (hq : q < 4294967296) {c : Nat} (hc : c < size p.length) : dR ((encR k q p).take c) = .error 10 := by
  rcases c with _ | c
  · rw [List.take_zero]; rfl
  · obtain ⟨t, ht⟩ := encR_cons k q p
    have hlo := lenOf_head k q p hp
    have hnu := num_head k q p hq
    have hL := encR_len k q p
    have e : dR ((encR k q p).take (c + 1)) = dS (le 4 q ++ (ful k p).take 4) ((encR k q p).take (c + 1)) := by rw [ht]; rfl
    rw [e]
    unfold dS
    rw [hnu, hlo, if_neg (by omega), if_neg (by omega), if_pos (.inl (by rw [List.length_take]; omega))]
end Go.Proofs.Ytcmmkeadbedooaa
