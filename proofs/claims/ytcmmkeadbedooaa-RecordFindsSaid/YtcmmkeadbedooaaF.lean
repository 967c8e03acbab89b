/- Records on lists: a changed byte is detected; what Scan finds of records one behind the other. -/
import Derived.Test.YtcmmkeadbedooaaE
namespace Go.Proofs.Ytcmmkeadbedooaa

theorem zip_self (s : List Nat) : List.zipWith (fun x y => x ^^^ y) s s = List.replicate s.length 0 := by
  induction s with
  | nil => rfl
  | cons a t ih => rw [List.zipWith_cons_cons, ih, Nat.xor_self, List.length_cons, List.replicate_succ]
theorem xor_zero_eq {a b : Nat} (h : a ^^^ b = 0) : a = b := by
  have := congrArg (fun x => x ^^^ b) h
  simp only [Nat.xor_assoc, Nat.xor_self, Nat.xor_zero, Nat.zero_xor] at this
  exact this
theorem sum_one {p s : List Nat} {a b : Nat} (hp : B8 p) (ha : a < 256) (hb : b < 256) (hne : a ≠ b) : sum0 (p ++ a :: s) ≠ sum0 (p ++ b :: s) := by
  intro h
  have e : crc (comp 0) (p ++ a :: s) = crc (comp 0) (p ++ b :: s) := by
    unfold sum0 upd at h
    have := congrArg comp h
    rw [comp_comp, comp_comp] at this
    exact this
  rw [crc_append, crc_append, crc_cons, crc_cons] at e
  have hr : crc (comp 0) p < 4294967296 := crc_lt (by decide) hp
  obtain ⟨r, hr'⟩ : ∃ r, crc (comp 0) p = r := ⟨_, rfl⟩
  rw [hr'] at e hr
  have h1 := crc_xor (l := s) (m := s) (stepC r a) (stepC r b) rfl
  rw [e, Nat.xor_self, zip_self] at h1
  have hl : stepC r a ^^^ stepC r b < 4294967296 := Nat.xor_lt_two_pow (n := 32) (step_lt hr ha) (step_lt hr hb)
  have h2 := crc_zeros_inj hl h1
  unfold stepC at h2
  rw [← shn_xor] at h2
  have h3 : (r ^^^ a) ^^^ (r ^^^ b) < 4294967296 := Nat.xor_lt_two_pow (n := 32) (Nat.xor_lt_two_pow (n := 32) hr (by omega)) (Nat.xor_lt_two_pow (n := 32) hr (by omega))
  have h4 := shn_of_zero (by decide) h3 h2
  have h5 := xor_zero_eq h4
  have h6 := congrArg (fun x => r ^^^ x) h5
  simp only [← Nat.xor_assoc, Nat.xor_self, Nat.zero_xor] at h6
  exact hne h6
theorem set_split {l : List Nat} {i v : Nat} (h : i < l.length) : l.set i v = l.take i ++ v :: l.drop (i + 1) := by
  rw [List.set_eq_take_append_cons_drop, if_pos h]
theorem get_split {l : List Nat} {i u : Nat} (h : l[i]? = some u) : l = l.take i ++ u :: l.drop (i + 1) := by
  obtain ⟨hl, rfl⟩ := List.getElem?_eq_some_iff.1 h
  rw [List.getElem_cons_drop, List.take_append_drop]
theorem sum_set {l : List Nat} {i u v : Nat} (h8 : B8 l) (h : l[i]? = some u) (hv : v < 256) (hne : v ≠ u) : sum0 (l.set i v) ≠ sum0 l := by
  have hl := (List.getElem?_eq_some_iff.1 h).1
  have hu := h8 u (List.mem_of_getElem? h)
  intro e
  rw [set_split hl] at e
  have e2 : sum0 l = sum0 (l.take i ++ u :: l.drop (i + 1)) := congrArg sum0 (get_split h)
  rw [e2] at e
  exact sum_one (b8_take h8 _) hv hu hne e
theorem b8_set {l : List Nat} (h : B8 l) (i : Nat) {v : Nat} (hv : v < 256) : B8 (l.set i v) := fun x hx => by
  rcases List.mem_or_eq_of_mem_set hx with h1 | h1
  · exact h x h1
  · rw [h1]; exact hv

theorem pk_set (q n : Nat) : ∀ (l : List Nat) (i v : Nat) (s : Sect), l.length = 4 * n → (pk q n l)[i / 4]? = some s → (pk q n l).set (i / 4) (s.set (4 + i % 4) v) = pk q n (l.set i v) := by
  induction n with
  | zero => intro l i v s _ h; simp [pk] at h
  | succ n ih =>
    intro l i v s hl h
    rw [pk] at h ⊢
    rw [pk]
    by_cases hi : i < 4
    · have e0 : i / 4 = 0 := by omega
      have e1 : i % 4 = i := by omega
      rw [e0] at h ⊢
      rw [e1]
      rw [List.getElem?_cons_zero] at h
      injection h with h
      rw [List.set_cons_zero, ← h, List.set_append_right _ _ (by rw [le_length]; omega), le_length, show 4 + i - 4 = i by omega, List.take_set, List.drop_set, if_pos hi]
    · obtain ⟨j, rfl⟩ : ∃ j, i = j + 4 := ⟨i - 4, by omega⟩
      have e0 : (j + 4) / 4 = j / 4 + 1 := by omega
      have e1 : (j + 4) % 4 = j % 4 := by omega
      rw [e0] at h ⊢
      rw [e1]
      rw [List.getElem?_cons_succ] at h
      rw [List.set_cons_succ, ih (l.drop 4) j v s (by rw [List.length_drop]; omega) h, List.take_set_of_le (by omega), List.drop_set, if_neg (by omega), show j + 4 - 4 = j by omega]
theorem pk_head (q n : Nat) (l : List Nat) : pk q (n + 1) l = (le 4 q ++ l.take 4) :: pk q n (l.drop 4) := rfl
/-- Reading sectors with one number whose length field is m. -/
theorem dR_pk {q n m : Nat} {b : List Nat} (hq0 : 0 < q) (hq : q < 4294967296) (hn : n = size m) (hm : m ≤ 4096) (hb : b.length = 4 * n) (hlen : (b.drop 1).take 2 = le 2 m) : dR (pk q n b) = dB q n m b := by
  subst hn
  have hs := size_two m
  obtain ⟨k, hk⟩ : ∃ k, size m = k + 1 := ⟨size m - 1, by omega⟩
  have hnu : num (le 4 q ++ b.take 4) = q := by
    unfold num
    rw [List.take_append_of_le_length (by rw [le_length]; omega), List.take_of_length_le (by rw [le_length]; omega), ge_le _ _ (by simpa using hq)]
  have hlo : lenOf (le 4 q ++ b.take 4) = m := by
    unfold lenOf
    have h1 : (le 4 q ++ b.take 4).drop 5 = (b.take 4).drop 1 := by
      rw [List.drop_append, le_length, List.drop_of_length_le (by rw [le_length]; omega), List.nil_append]
    rw [h1, List.drop_take, List.take_take, show min 2 (4 - 1) = 2 by rfl, hlen, ge_le _ _ (by omega)]
  have hd : dts (pk q (size m) b) = b := dts_pk _ _ _ hb
  have ho : others q (pk q (size m) b) = false := others_pk hq _
  have hlp : (pk q (size m) b).length = size m := pk_len _ _ _
  have e : dR (pk q (size m) b) = dS (le 4 q ++ b.take 4) (pk q (size m) b) := by rw [hk]; rfl
  have htk : (pk q (size m) b).take (size m) = pk q (size m) b := List.take_of_length_le (by omega)
  rw [e, dS_pre (by rw [hnu]; omega) (by rw [hlo]; exact hm) (by rw [hlo]; omega) (by rw [hnu, hlo, htk]; exact ho), hnu, hlo, htk, hd]
theorem some0_of {l : List Nat} {i v : Nat} (h : l[i]? = some v) (hv : v ≠ 0) : some0 l = true := by
  unfold some0
  rw [List.any_eq_true]
  exact ⟨v, List.mem_of_getElem? h, by simpa using hv⟩
/-- A changed byte is detected. -/
theorem dR_changed {k q i u v : Nat} {p : List Nat} {s : Sect} (h8 : B8 p) (hp : p.length ≤ 4096) (hq0 : 0 < q) (hq : q < 4294967296)
    (hi1 : i ≠ 1) (hi2 : i ≠ 2) (hs : (encR k q p)[i / 4]? = some s) (hu : s[4 + i % 4]? = some u) (hv : v < 256) (hne : v ≠ u) :
    dR ((encR k q p).set (i / 4) (s.set (4 + i % 4) v)) = .error 9 ∨ dR ((encR k q p).set (i / 4) (s.set (4 + i % 4) v)) = .error 3 := by
  have hpl : (pad (4 * size p.length) (ful k p)).length = 4 * size p.length := pad_len (by rw [ful_len]; exact size_le _)
  have hil : i / 4 < size p.length := by have := (List.getElem?_eq_some_iff.1 hs).1; rwa [encR_len] at this
  have hset := pk_set q (size p.length) (pad (4 * size p.length) (ful k p)) i v s hpl hs
  -- the byte at the place i
  have hbu : (pad (4 * size p.length) (ful k p))[i]? = some u := by
    have hself := pk_set q (size p.length) (pad (4 * size p.length) (ful k p)) i u s hpl hs
    have hsu : s.set (4 + i % 4) u = s := by
      obtain ⟨h1, h2⟩ := List.getElem?_eq_some_iff.1 hu
      rw [← h2, List.set_getElem_self]
    have hsl : (pk q (size p.length) (pad (4 * size p.length) (ful k p))).set (i / 4) s = pk q (size p.length) (pad (4 * size p.length) (ful k p)) := by
      obtain ⟨h1, h2⟩ := List.getElem?_eq_some_iff.1 hs
      unfold encR at h1 h2
      rw [← h2, List.set_getElem_self]
    rw [hsu, hsl] at hself
    have := congrArg dts hself
    rw [dts_pk _ _ _ hpl, dts_pk _ _ _ (by rw [List.length_set]; exact hpl)] at this
    rw [this, List.getElem?_set_self (by omega)]
  have hsl := stm_len k p
  have hfl := ful_len k p
  have hss := size_two p.length
  unfold encR
  rw [hset]
  obtain ⟨b, hb⟩ : ∃ b, pad (4 * size p.length) (ful k p) = b := ⟨_, rfl⟩
  rw [hb] at hpl hbu ⊢
  have hb8 : B8 b := by rw [← hb]; exact b8_pad (b8_ful h8)
  have hu8 := hb8 u (List.mem_of_getElem? hbu)
  have e1 : b.take (3 + p.length) = stm k p := by
    rw [← hb]
    unfold pad ful
    rw [List.append_assoc, List.take_append_of_le_length (by omega), List.take_of_length_le (by omega)]
  have e2 : (b.drop (3 + p.length)).take 4 = le 4 (sum0 (stm k p)) := by
    rw [← hb]
    unfold pad
    rw [List.drop_append_of_le_length (by omega)]
    unfold ful
    rw [List.drop_append_of_le_length (by omega), List.drop_of_length_le (by omega), List.nil_append, List.take_append_of_le_length (by rw [le_length]; omega), List.take_of_length_le (by rw [le_length]; omega)]
  have e0 : b = le 1 k ++ (le 2 p.length ++ (p ++ (le 4 (sum0 (stm k p)) ++ List.replicate (4 * size p.length - (ful k p).length) 0))) := by
    rw [← hb]; unfold pad ful stm; simp [List.append_assoc]
  have e3 : (b.drop 1).take 2 = le 2 p.length := by
    rw [e0, List.drop_append_of_le_length (by rw [le_length]; omega), List.drop_of_length_le (by rw [le_length]; omega), List.nil_append, List.take_append_of_le_length (by rw [le_length]; omega), List.take_of_length_le (by rw [le_length]; omega)]
  have e4 : b.take 1 = le 1 k := by
    rw [e0, List.take_append_of_le_length (by rw [le_length]; omega), List.take_of_length_le (by rw [le_length]; omega)]
  have e3' : ((b.set i v).drop 1).take 2 = le 2 p.length := by
    rcases Nat.eq_zero_or_pos i with rfl | hi0
    · rw [List.drop_set, if_pos (by omega)]; exact e3
    · rw [List.drop_set, if_neg (by omega), List.take_set_of_le (by omega)]; exact e3
  have hst : sum0 (stm k p) < 256 ^ 4 := sum0_lt' (b8_stm h8)
  rw [dR_pk hq0 hq rfl hp (by rw [List.length_set]; exact hpl) e3']
  by_cases h1 : i < 3 + p.length
  · left
    have t1 : (b.set i v).take (3 + p.length) = (stm k p).set i v := by rw [List.take_set, e1]
    have t2 : ((b.set i v).drop (3 + p.length)).take 4 = le 4 (sum0 (stm k p)) := by rw [List.drop_set, if_pos h1, e2]
    have t3 : (stm k p)[i]? = some u := by rw [← e1, List.getElem?_take, if_pos h1]; exact hbu
    unfold dB
    rw [t1, t2, ge_le _ _ hst, if_pos (fun e => sum_set (b8_stm h8) t3 hv hne e.symm)]
  · by_cases h2 : i < 7 + p.length
    · left
      have t1 : (b.set i v).take (3 + p.length) = stm k p := by rw [List.take_set_of_le (by omega), e1]
      have t2 : ((b.set i v).drop (3 + p.length)).take 4 = (le 4 (sum0 (stm k p))).set (i - (3 + p.length)) v := by rw [List.drop_set, if_neg h1, List.take_set, e2]
      have t3 : (le 4 (sum0 (stm k p)))[i - (3 + p.length)]? = some u := by
        rw [← e2, List.getElem?_take, if_pos (by omega), List.getElem?_drop, show 3 + p.length + (i - (3 + p.length)) = i by omega]
        exact hbu
      unfold dB
      rw [t1, t2, if_pos]
      intro e
      have hg : ge ((le 4 (sum0 (stm k p))).set (i - (3 + p.length)) v) = ge (le 4 (sum0 (stm k p))) := by rw [e, ge_le _ _ hst]
      have hl := ge_inj (by rw [List.length_set]) (b8_set (le_b8 _ _) _ hv) (le_b8 _ _) hg
      have := congrArg (fun l => l[i - (3 + p.length)]?) hl
      simp only [t3] at this
      rw [List.getElem?_set_self (by rw [le_length]; omega)] at this
      injection this with this
      exact hne this
    · right
      have hu0 : u = 0 := by
        rw [← hb] at hbu
        unfold pad at hbu
        rw [List.getElem?_append_right (by omega)] at hbu
        exact List.eq_of_mem_replicate (List.mem_of_getElem? hbu)
      have t1 : (b.set i v).take (3 + p.length) = stm k p := by rw [List.take_set_of_le (by omega), e1]
      have t2 : ((b.set i v).drop (3 + p.length)).take 4 = le 4 (sum0 (stm k p)) := by rw [List.drop_set, if_neg h1, List.take_set_of_le (by omega), e2]
      have t3 : some0 ((b.set i v).drop (7 + p.length)) = true := by
        refine some0_of (i := i - (7 + p.length)) (v := v) ?_ (by omega)
        rw [List.getElem?_drop, show 7 + p.length + (i - (7 + p.length)) = i by omega, List.getElem?_set_self (by omega)]
      unfold dB
      rw [t1, t2, ge_le _ _ hst, t3, if_neg (by simp), if_pos (.inr rfl)]

/-- What may be written as a record. -/
def Ok (r : Rc) : Prop := 0 < r.1 ∧ r.1 < 256 ∧ 0 < r.2.1 ∧ r.2.1 < 4294967296 ∧ r.2.2.length ≤ 4096 ∧ B8 r.2.2
def encs (l : List Rc) : List Sect := (l.map (fun r => encR r.1 r.2.1 r.2.2)).flatten
theorem scn_encs : ∀ (l : List Rc) (rest : List Sect) (q f : Nat), (∀ r ∈ l, Ok r) → (∀ i r, l[i]? = some r → r.2.1 = q + i) → (encs l ++ rest).length < f → scn f (encs l ++ rest) q = (l ++ (scn f rest (q + l.length)).1, (encs l).length + (scn f rest (q + l.length)).2) := by
  intro l
  induction l with
  | nil => intro rest q f _ _ _; simp [encs]
  | cons r t ih =>
    intro rest q f ho hq hf
    obtain ⟨h1, h2, h3, h4, h5, h6⟩ := ho r (List.mem_cons_self ..)
    obtain ⟨f, rfl⟩ : ∃ f', f = f' + 1 := ⟨f - 1, by omega⟩
    have he : encs (r :: t) ++ rest = encR r.1 r.2.1 r.2.2 ++ (encs t ++ rest) := by unfold encs; simp
    rw [he] at hf ⊢
    have hd := dR_enc h6 h5 h1 h2 h3 h4 (encs t ++ rest)
    have hl := encR_len r.1 r.2.1 r.2.2
    have hz := size_two r.2.2.length
    rw [List.length_append, hl] at hf
    have hr : r.2.1 = q := by have := hq 0 r rfl; omega
    have hdr : (encR r.1 r.2.1 r.2.2 ++ (encs t ++ rest)).drop (size r.2.2.length) = encs t ++ rest := by rw [← hl, List.drop_left]
    rw [scn_ok hd hr, hdr, ih rest (q + 1) f (fun x hx => ho x (List.mem_cons_of_mem _ hx)) (fun i x hx => by have := hq (i + 1) x hx; omega) (by omega)]
    have hlen : (encs (r :: t)).length = size r.2.2.length + (encs t).length := by unfold encs; simp [hl]
    have hrl : rest.length < f := by rw [List.length_append] at hf; omega
    rw [hlen, List.length_cons, show q + (t.length + 1) = q + 1 + t.length by omega, scn_fuel f (f + 1) rest _ hrl (by omega)]
    simp [Nat.add_assoc]
end Go.Proofs.Ytcmmkeadbedooaa
