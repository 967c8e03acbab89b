/- The plain mathematics of the sweep over the ends of all extents of two lists. No Go in sight. -/
import Derived.Test.YtoefbgkeinhibaaXM
namespace Go.Proofs.Ytoefbgkeinhibaa.Xt

def clipF (s n : Int) : Int := if n ≤ 0 ∨ s ≥ 4096 then 0 else if s < 0 then 0 else s
def clipE (s n : Int) : Int := if n ≤ 0 ∨ s ≥ 4096 then 0 else if s < 0 then max 0 (min (s + n) 4096) else s + min n (4096 - s)

theorem clip_range (s n : Int) : 0 ≤ clipF s n ∧ clipF s n ≤ clipE s n ∧ clipE s n ≤ 4096 := by
  unfold clipF clipE
  simp only [Int.max_def, Int.min_def]
  (repeat' split) <;> omega
theorem inE_clip (e : Int × Int) (x : Int) : inE e x = decide (clipF e.1 e.2 ≤ x ∧ x < clipE e.1 e.2) := by
  unfold inE clipF clipE
  simp only [Int.max_def, Int.min_def, decide_eq_decide]
  (repeat' split) <;> omega

abbrev Edge := Int × Int × Int
def dsum (k x : Int) : List Edge → Int
  | [] => 0
  | e :: r => (if e.2.1 = k ∧ e.1 ≤ x then e.2.2 else 0) + dsum k x r
def tsum (k : Int) : List Edge → Int
  | [] => 0
  | e :: r => (if e.2.1 = k then e.2.2 else 0) + tsum k r
def edgesOf (k : Int) : List (Int × Int) → List Edge
  | [] => []
  | e :: r => (if clipF e.1 e.2 < clipE e.1 e.2 then [(clipF e.1 e.2, k, 1), (clipE e.1 e.2, k, -1)] else []) ++ edgesOf k r

theorem dsum_append (k x : Int) (a c : List Edge) : dsum k x (a ++ c) = dsum k x a + dsum k x c := by
  induction a with
  | nil => simp [dsum]
  | cons e r ih => simp only [List.cons_append, dsum, ih]; omega
theorem tsum_append (k : Int) (a c : List Edge) : tsum k (a ++ c) = tsum k a + tsum k c := by
  induction a with
  | nil => simp [tsum]
  | cons e r ih => simp only [List.cons_append, tsum, ih]; omega
theorem dsum_perm (k x : Int) {a c : List Edge} (h : a.Perm c) : dsum k x a = dsum k x c := by
  induction h with
  | nil => rfl
  | cons e _ ih => simp only [dsum, ih]
  | swap e f r => simp only [dsum]; omega
  | trans _ _ i1 i2 => exact i1.trans i2
theorem tsum_perm (k : Int) {a c : List Edge} (h : a.Perm c) : tsum k a = tsum k c := by
  induction h with
  | nil => rfl
  | cons e _ ih => simp only [tsum, ih]
  | swap e f r => simp only [tsum]; omega
  | trans _ _ i1 i2 => exact i1.trans i2

theorem dsum_other {k k' : Int} (hk : k' ≠ k) (x : Int) (l : List (Int × Int)) : dsum k x (edgesOf k' l) = 0 := by
  induction l with
  | nil => rfl
  | cons e r ih =>
    rw [edgesOf, dsum_append, ih]
    split <;> simp [dsum, hk]
theorem tsum_any (k k' : Int) (l : List (Int × Int)) : tsum k (edgesOf k' l) = 0 := by
  induction l with
  | nil => rfl
  | cons e r ih =>
    rw [edgesOf, tsum_append, ih]
    by_cases hk : k' = k
    · split <;> simp [tsum, hk]
    · split <;> simp [tsum, hk]
theorem dsum_own (k x : Int) (e : Int × Int) (r : List (Int × Int)) : dsum k x (edgesOf k (e :: r)) = (if inE e x = true then 1 else 0) + dsum k x (edgesOf k r) := by
  rw [edgesOf, dsum_append, inE_clip]
  congr 1
  have := clip_range e.1 e.2
  by_cases h : clipF e.1 e.2 < clipE e.1 e.2
  · rw [if_pos h]
    simp only [dsum, true_and, decide_eq_true_eq]
    (repeat' split) <;> omega
  · rw [if_neg h, if_neg (by simp only [decide_eq_true_eq]; omega)]
    rfl
theorem dsum_mem (k x : Int) (l : List (Int × Int)) : 0 ≤ dsum k x (edgesOf k l) ∧ decide (0 < dsum k x (edgesOf k l)) = mem l x := by
  induction l with
  | nil => simp [edgesOf, dsum, mem]
  | cons e r ih =>
    rw [dsum_own, mem_cons, ← ih.2]
    obtain ⟨h1, _⟩ := ih
    cases inE e x with
    | true => simp only [if_pos, Bool.true_or, decide_eq_true_eq]; omega
    | false => simp only [Bool.false_eq_true, if_false, Int.zero_add, Bool.false_or, and_true]; omega

structure GoodEdges (d : List Edge) : Prop where
  sorted : ∀ (i j : Nat) (e f : Edge), i ≤ j → d[i]? = some e → d[j]? = some f → e.1 ≤ f.1
  bounds : ∀ e ∈ d, 0 ≤ e.1 ∧ e.1 ≤ 4096
  total : ∀ k, tsum k d = 0

theorem edgesOf_bounds {k : Int} {l : List (Int × Int)} : ∀ e ∈ edgesOf k l, 0 ≤ e.1 ∧ e.1 ≤ 4096 ∧ e.2.1 = k ∧ (e.2.2 = 1 ∨ e.2.2 = -1) := by
  induction l with
  | nil => intro e he; cases he
  | cons f r ih =>
    intro e he
    rw [edgesOf] at he
    rcases List.mem_append.1 he with h | h
    · have := clip_range f.1 f.2
      split at h
      · simp only [List.mem_cons, List.not_mem_nil, or_false] at h
        rcases h with rfl | rfl
        · exact ⟨by simp only; omega, by simp only; omega, rfl, .inl rfl⟩
        · exact ⟨by simp only; omega, by simp only; omega, rfl, .inr rfl⟩
      · cases h
    · exact ih e h
theorem edgesOf_length (k : Int) (l : List (Int × Int)) : (edgesOf k l).length ≤ 2 * l.length := by
  induction l with
  | nil => simp [edgesOf]
  | cons e r ih => rw [edgesOf, List.length_append]; split <;> simp <;> omega

def psum (k : Int) (n : Nat) (d : List Edge) : Int := tsum k (d.take n)
theorem psum_zero (k : Int) (d : List Edge) : psum k 0 d = 0 := by simp [psum, tsum]
theorem psum_succ {k : Int} {n : Nat} {d : List Edge} {e : Edge} (h : d[n]? = some e) : psum k (n + 1) d = psum k n d + (if e.2.1 = k then e.2.2 else 0) := by
  obtain ⟨hn, he⟩ := List.getElem?_eq_some_iff.1 h
  unfold psum
  rw [List.take_succ_eq_append_getElem hn, tsum_append, he]
  simp [tsum]
theorem dsum_all {k x : Int} {d : List Edge} (h : ∀ e ∈ d, e.1 ≤ x) : dsum k x d = tsum k d := by
  induction d with
  | nil => rfl
  | cons e r ih =>
    have := h e (List.mem_cons_self ..)
    simp only [dsum, tsum, ih fun f hf => h f (List.mem_cons_of_mem _ hf)]
    simp [this]
theorem dsum_none {k x : Int} {d : List Edge} (h : ∀ e ∈ d, x < e.1) : dsum k x d = 0 := by
  induction d with
  | nil => rfl
  | cons e r ih =>
    have := h e (List.mem_cons_self ..)
    simp only [dsum, ih fun f hf => h f (List.mem_cons_of_mem _ hf)]
    rw [if_neg (by omega)]; rfl
theorem dsum_psum {k x : Int} {n : Nat} {d : List Edge} (hlo : ∀ (j : Nat) (e : Edge), j < n → d[j]? = some e → e.1 ≤ x) (hhi : ∀ (j : Nat) (e : Edge), n ≤ j → d[j]? = some e → x < e.1) : dsum k x d = psum k n d := by
  have h : d = d.take n ++ d.drop n := (List.take_append_drop n d).symm
  rw [h, dsum_append, dsum_all, dsum_none]
  · simp [psum]
  · intro e he
    obtain ⟨j, hj⟩ := List.mem_iff_getElem?.1 he
    rw [List.getElem?_drop] at hj
    exact hhi _ e (by omega) hj
  · intro e he
    obtain ⟨j, hj⟩ := List.mem_iff_getElem?.1 he
    obtain ⟨hlt, _⟩ := List.getElem?_eq_some_iff.1 hj
    rw [List.length_take] at hlt
    rw [List.getElem?_take, if_pos (by omega)] at hj
    exact hlo j e (by omega) hj

def want (b : Bool → Bool → Bool) (d : List Edge) (x : Int) : Bool := b (decide (0 < dsum 0 x d)) (decide (0 < dsum 1 x d))

structure SInv (b : Bool → Bool → Bool) (d : List Edge) (i : Nat) (inside : Bool) (start : Int) (out : List (Int × Int)) : Prop where
  canon : Canon 0 out
  cover : ∀ x, (∀ e : Edge, d[i]? = some e → x < e.1) → (mem out x || (inside && decide (start ≤ x))) = want b d x
  ins : inside = true → 0 ≤ start ∧ (∀ f ∈ out, f.1 + f.2 < start) ∧ ∃ e : Edge, d[i]? = some e ∧ start < e.1
  outs : inside = false → ∀ e : Edge, d[i]? = some e → ∀ f ∈ out, f.1 + f.2 < e.1

variable {b : Bool → Bool → Bool} {d : List Edge} {i : Nat} {inside : Bool} {start : Int} {out : List (Int × Int)} {e : Edge}

theorem SInv.zero (hb : b false false = false) (hd : GoodEdges d) : SInv b d 0 false 0 [] where
  canon := trivial
  cover x hx := by
    have h : ∀ k, dsum k x d = 0 := fun k => dsum_none fun f hf => by
      obtain ⟨j, hj⟩ := List.mem_iff_getElem?.1 hf
      cases h0 : d[0]? with
      | none => simp at h0; subst h0; simp at hj
      | some g => have := hx g h0; have := hd.sorted 0 j g f (by omega) h0 hj; omega
    simp [mem, want, h, hb]
  ins h := by cases h
  outs _ _ _ f hf := by cases hf
theorem SInv.same {e' : Edge} (h : SInv b d i inside start out) (he : d[i]? = some e) (he' : d[i + 1]? = some e') (hs : e'.1 = e.1) : SInv b d (i + 1) inside start out where
  canon := h.canon
  cover x hx := h.cover x fun g hg => by
    rw [he] at hg
    injection hg with hg
    subst hg
    have := hx e' he'
    omega
  ins hi := by
    obtain ⟨a, c, g, hg, hl⟩ := h.ins hi
    rw [he] at hg
    injection hg with hg
    subst hg
    exact ⟨a, c, e', he', by omega⟩
  outs ho g hg f hf := by
    rw [he'] at hg
    injection hg with hg
    subst hg
    have := h.outs ho e he f hf
    omega
theorem want_at (hd : GoodEdges d) (he : d[i]? = some e) (_hn : ∀ g : Edge, d[i + 1]? = some g → e.1 < g.1) {x : Int} (hx : e.1 ≤ x) (hx' : ∀ g : Edge, d[i + 1]? = some g → x < g.1) :
    want b d x = b (decide (0 < psum 0 (i + 1) d)) (decide (0 < psum 1 (i + 1) d)) := by
  have h : ∀ k, dsum k x d = psum k (i + 1) d := fun k => dsum_psum (fun j g hj hg => by have := hd.sorted j i g e (by omega) hg he; omega) (fun j g hj hg => by
    have hl := (List.getElem?_eq_some_iff.1 hg).1
    obtain ⟨g', hg'⟩ : ∃ g', d[i + 1]? = some g' := ⟨d[i + 1]'(by omega), List.getElem?_eq_getElem (by omega)⟩
    have := hd.sorted (i + 1) j g' g hj hg' hg
    have := hx' g' hg'
    omega)
  simp [want, h]
theorem more (hb : b false false = false) (hd : GoodEdges d) (_he : d[i]? = some e) (h : b (decide (0 < psum 0 (i + 1) d)) (decide (0 < psum 1 (i + 1) d)) = true) : ∃ g : Edge, d[i + 1]? = some g := by
  cases hg : d[i + 1]? with
  | some g => exact ⟨g, rfl⟩
  | none =>
    have hl : d.length ≤ i + 1 := by simpa using hg
    have : ∀ k, psum k (i + 1) d = 0 := fun k => by unfold psum; rw [List.take_of_length_le hl]; exact hd.total k
    simp [this, hb] at h
theorem SInv.opens (hb : b false false = false) (hd : GoodEdges d) (h : SInv b d i false start out) (he : d[i]? = some e) (hn : ∀ g : Edge, d[i + 1]? = some g → e.1 < g.1)
    (hin : b (decide (0 < psum 0 (i + 1) d)) (decide (0 < psum 1 (i + 1) d)) = true) : SInv b d (i + 1) true e.1 out where
  canon := h.canon
  cover x hx := by
    by_cases hx1 : e.1 ≤ x
    · rw [want_at hd he hn hx1 hx, hin]
      simp [hx1]
    · have := h.cover x (fun g hg => by rw [he] at hg; injection hg with hg; subst hg; omega)
      rw [← this]
      simp [hx1]
  ins _ := by
    obtain ⟨g, hg⟩ := more hb hd he hin
    exact ⟨(hd.bounds e (List.mem_of_getElem? he)).1, h.outs rfl e he, g, hg, hn g hg⟩
  outs h := by cases h
theorem mem_high {l : List (Int × Int)} {x : Int} (h : ∀ f ∈ l, f.1 + f.2 ≤ x) : mem l x = false := by
  induction l with
  | nil => rfl
  | cons f r ih =>
    rw [mem_cons, ih fun g hg => h g (List.mem_cons_of_mem _ hg)]
    have := h f (List.mem_cons_self ..)
    have e : inE f x = false := by simp [inE]; omega
    rw [e]; rfl
theorem SInv.closes (hd : GoodEdges d) (h : SInv b d i true start out) (he : d[i]? = some e) (hn : ∀ g : Edge, d[i + 1]? = some g → e.1 < g.1)
    (hin : b (decide (0 < psum 0 (i + 1) d)) (decide (0 < psum 1 (i + 1) d)) = false) : SInv b d (i + 1) false start (out ++ [(start, e.1 - start)]) ∧ 0 ≤ start ∧ start < e.1 ∧ e.1 ≤ 4096 := by
  obtain ⟨h0, hf, g, hg, hlt⟩ := h.ins rfl
  rw [he] at hg
  injection hg with hg
  subst hg
  have hbd := hd.bounds e (List.mem_of_getElem? he)
  have hlast : ∀ f ∈ out ++ [(start, e.1 - start)], f.1 + f.2 ≤ e.1 := fun f hm => by
    rcases List.mem_append.1 hm with hm | hm
    · have := hf f hm; omega
    · simp at hm; subst hm; simp only; omega
  refine ⟨⟨canon_snoc h.canon h0 hf (by omega) (by omega), fun x hx => ?_, (fun hh => by cases hh), fun _ g hg f hm => ?_⟩, h0, hlt, hbd.2⟩
  · by_cases hx1 : e.1 ≤ x
    · rw [want_at hd he hn hx1 hx, hin, mem_high (fun f hm => by have := hlast f hm; omega)]
      rfl
    · have := h.cover x (fun g hg => by rw [he] at hg; injection hg with hg; subst hg; omega)
      rw [← this, mem_append, mem_cons, mem_nil]
      have e1 : inE (start, e.1 - start) x = decide (start ≤ x) := by simp only [inE, decide_eq_decide]; omega
      rw [e1]; simp
  · have := hlast f hm
    have := hn g hg
    omega
theorem SInv.stays (hb : b false false = false) (hd : GoodEdges d) (h : SInv b d i inside start out) (he : d[i]? = some e) (hn : ∀ g : Edge, d[i + 1]? = some g → e.1 < g.1)
    (hin : b (decide (0 < psum 0 (i + 1) d)) (decide (0 < psum 1 (i + 1) d)) = inside) : SInv b d (i + 1) inside start out where
  canon := h.canon
  cover x hx := by
    by_cases hx1 : e.1 ≤ x
    · rw [want_at hd he hn hx1 hx, hin]
      cases inside with
      | true =>
        obtain ⟨_, _, g, hg, hlt⟩ := h.ins rfl
        rw [he] at hg
        injection hg with hg
        subst hg
        have : start ≤ x := by omega
        simp [this]
      | false =>
        rw [mem_high (fun f hm => by have := h.outs rfl e he f hm; omega)]
        rfl
    · exact h.cover x (fun g hg => by rw [he] at hg; injection hg with hg; subst hg; omega)
  ins hi := by
    subst hi
    obtain ⟨a, c, g, hg, hl⟩ := h.ins rfl
    rw [he] at hg
    injection hg with hg
    subst hg
    obtain ⟨g', hg'⟩ := more hb hd he hin
    have := hn g' hg'
    exact ⟨a, c, g', hg', by omega⟩
  outs ho g hg f hf := by
    have := h.outs ho e he f hf
    have := hn g hg
    omega
theorem SInv.ends (h : SInv b d d.length inside start out) : inside = false ∧ Canon 0 out ∧ ∀ x, mem out x = want b d x := by
  have hn : d[d.length]? = none := by simp
  have hi : inside = false := by
    cases inside with
    | false => rfl
    | true => obtain ⟨_, _, g, hg, _⟩ := h.ins rfl; rw [hn] at hg; cases hg
  subst hi
  refine ⟨rfl, h.canon, fun x => ?_⟩
  have := h.cover x (fun g hg => by rw [hn] at hg; cases hg)
  simpa using this
theorem want_mem {a c : List (Int × Int)} (hp : (edgesOf 0 a ++ edgesOf 1 c).Perm d) (x : Int) : want b d x = b (mem a x) (mem c x) := by
  have h0 : dsum 0 x d = dsum 0 x (edgesOf 0 a) := by rw [← dsum_perm 0 x hp, dsum_append, dsum_other (k := 0) (k' := 1) (by decide), Int.add_zero]
  have h1 : dsum 1 x d = dsum 1 x (edgesOf 1 c) := by rw [← dsum_perm 1 x hp, dsum_append, dsum_other (k := 1) (k' := 0) (by decide), Int.zero_add]
  unfold want
  rw [h0, h1, (dsum_mem 0 x a).2, (dsum_mem 1 x c).2]
theorem good_of_perm {a c : List (Int × Int)} (hp : (edgesOf 0 a ++ edgesOf 1 c).Perm d) (hs : ∀ (i j : Nat) (e f : Edge), i ≤ j → d[i]? = some e → d[j]? = some f → e.1 ≤ f.1) :
    GoodEdges d ∧ ∀ e ∈ d, 0 ≤ e.1 ∧ e.1 ≤ 4096 ∧ (e.2.1 = 0 ∨ e.2.1 = 1) ∧ (e.2.2 = 1 ∨ e.2.2 = -1) := by
  have hb : ∀ e ∈ d, 0 ≤ e.1 ∧ e.1 ≤ 4096 ∧ (e.2.1 = 0 ∨ e.2.1 = 1) ∧ (e.2.2 = 1 ∨ e.2.2 = -1) := fun e he => by
    rcases List.mem_append.1 (hp.mem_iff.2 he) with h | h
    · obtain ⟨x, y, z, t⟩ := edgesOf_bounds e h; exact ⟨x, y, .inl z, t⟩
    · obtain ⟨x, y, z, t⟩ := edgesOf_bounds e h; exact ⟨x, y, .inr z, t⟩
  exact ⟨⟨hs, fun e he => ⟨(hb e he).1, (hb e he).2.1⟩, fun k => by rw [← tsum_perm k hp, tsum_append, tsum_any, tsum_any]; rfl⟩, hb⟩
theorem psum_bound {k : Int} {n : Nat} (h : ∀ e ∈ d, e.2.2 = 1 ∨ e.2.2 = -1) (hn : n ≤ d.length) : -(n : Int) ≤ psum k n d ∧ psum k n d ≤ n := by
  induction n with
  | zero => simp [psum_zero]
  | succ n ih =>
    have := ih (by omega)
    have hg : d[n]? = some (d[n]'(by omega)) := List.getElem?_eq_getElem (by omega)
    have := h _ (List.mem_of_getElem? hg)
    rw [psum_succ hg]
    split <;> omega
end Go.Proofs.Ytoefbgkeinhibaa.Xt
