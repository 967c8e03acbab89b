/- The plain mathematics of sets of sectors: membership, canonical lists, and that a set has just one. No Go in sight. -/
namespace Go.Proofs.Ytoefbgkeinhibaa.Xt

def inE (e : Int × Int) (x : Int) : Bool := decide (0 ≤ x ∧ x < 4096 ∧ e.1 ≤ x ∧ x < e.1 + e.2)
def mem (l : List (Int × Int)) (x : Int) : Bool := l.any fun e => inE e x

def Canon (lo : Int) : List (Int × Int) → Prop
  | [] => True
  | e :: r => lo ≤ e.1 ∧ 1 ≤ e.2 ∧ e.1 + e.2 ≤ 4096 ∧ Canon (e.1 + e.2 + 1) r

theorem mem_nil (x : Int) : mem [] x = false := rfl
theorem mem_cons (e : Int × Int) (l : List (Int × Int)) (x : Int) : mem (e :: l) x = (inE e x || mem l x) := by simp [mem]
theorem mem_append (a b : List (Int × Int)) (x : Int) : mem (a ++ b) x = (mem a x || mem b x) := by simp [mem]
theorem inE_iff {e : Int × Int} {x : Int} : inE e x = true ↔ 0 ≤ x ∧ x < 4096 ∧ e.1 ≤ x ∧ x < e.1 + e.2 := by simp [inE]
theorem mem_range {l : List (Int × Int)} {x : Int} (h : mem l x = true) : 0 ≤ x ∧ x < 4096 := by
  simp only [mem, List.any_eq_true] at h
  obtain ⟨e, _, he⟩ := h
  rw [inE_iff] at he
  omega

theorem Canon.weaken {lo lo' : Int} {l : List (Int × Int)} (h : Canon lo l) (hl : lo' ≤ lo) : Canon lo' l := by
  cases l with
  | nil => trivial
  | cons e r => exact ⟨Int.le_trans hl h.1, h.2⟩

theorem Canon.mem_low {lo : Int} {l : List (Int × Int)} (h : Canon lo l) {x : Int} (hx : x < lo) : mem l x = false := by
  induction l generalizing lo with
  | nil => rfl
  | cons e r ih =>
    obtain ⟨h1, h2, h3, h4⟩ := h
    rw [mem_cons, ih h4 (by omega)]
    have : inE e x = false := by simp [inE]; omega
    rw [this]; rfl

theorem Canon.mem_first {lo : Int} {e : Int × Int} {r : List (Int × Int)} (hlo : 0 ≤ lo) (h : Canon lo (e :: r)) {x : Int} (h1 : e.1 ≤ x) (h2 : x < e.1 + e.2) : mem (e :: r) x = true := by
  rw [mem_cons]
  have : inE e x = true := by
    rw [inE_iff]
    have := h.1
    have := h.2.1
    have := h.2.2.1
    omega
  rw [this]; rfl

theorem Canon.mem_gap {lo : Int} {e : Int × Int} {r : List (Int × Int)} (h : Canon lo (e :: r)) : mem (e :: r) (e.1 + e.2) = false := by
  rw [mem_cons, h.2.2.2.mem_low (by omega)]
  have : inE e (e.1 + e.2) = false := by simp [inE]
  rw [this]; rfl

theorem Canon.mem_before {lo : Int} {e : Int × Int} {r : List (Int × Int)} (h : Canon lo (e :: r)) {x : Int} (hx : x < e.1) : mem (e :: r) x = false := by
  rw [mem_cons, h.2.2.2.mem_low (by have := h.2.1; omega)]
  have : inE e x = false := by simp [inE]; omega
  rw [this]; rfl

/-- A set has just one canonical list. -/
theorem canon_ext {a b : List (Int × Int)} : ∀ {lo : Int}, 0 ≤ lo → Canon lo a → Canon lo b → (∀ x, mem a x = mem b x) → a = b := by
  induction a generalizing b with
  | nil =>
    intro lo hlo _ hb hm
    cases b with
    | nil => rfl
    | cons f s =>
      have h := hm f.1
      rw [hb.mem_first hlo (Int.le_refl _) (by have := hb.2.1; omega), mem_nil] at h
      cases h
  | cons e r ih =>
    intro lo hlo ha hb hm
    cases b with
    | nil =>
      have h := hm e.1
      rw [ha.mem_first hlo (Int.le_refl _) (by have := ha.2.1; omega), mem_nil] at h
      cases h
    | cons f s =>
      have h1 : e.1 = f.1 := by
        rcases Int.lt_trichotomy e.1 f.1 with h | h | h
        · have := hm e.1
          rw [ha.mem_first hlo (Int.le_refl _) (by have := ha.2.1; omega), hb.mem_before h] at this
          cases this
        · exact h
        · have := hm f.1
          rw [hb.mem_first hlo (Int.le_refl _) (by have := hb.2.1; omega), ha.mem_before h] at this
          cases this
      have h2 : e.2 = f.2 := by
        rcases Int.lt_trichotomy e.2 f.2 with h | h | h
        · have := hm (e.1 + e.2)
          rw [ha.mem_gap, hb.mem_first hlo (by have := ha.2.1; omega) (by omega)] at this
          cases this
        · exact h
        · have := hm (f.1 + f.2)
          rw [hb.mem_gap, ha.mem_first hlo (by have := hb.2.1; omega) (by omega)] at this
          cases this
      obtain rfl : e = f := Prod.ext h1 h2
      have hlo' : 0 ≤ e.1 + e.2 + 1 := by have := ha.1; have := ha.2.1; omega
      have hr : r = s := ih hlo' ha.2.2.2 hb.2.2.2 (fun x => by
        by_cases hx : x < e.1 + e.2 + 1
        · rw [ha.2.2.2.mem_low hx, hb.2.2.2.mem_low hx]
        · have := hm x
          rw [mem_cons, mem_cons] at this
          have hf : inE e x = false := by simp [inE]; omega
          rwa [hf, Bool.false_or, Bool.false_or] at this)
      rw [hr]

theorem canon_snoc {out : List (Int × Int)} {s n : Int} : ∀ {lo : Int}, Canon lo out → lo ≤ s → (∀ e ∈ out, e.1 + e.2 < s) → 1 ≤ n → s + n ≤ 4096 → Canon lo (out ++ [(s, n)]) := by
  induction out with
  | nil => intro lo _ h0 _ h1 h2; exact ⟨h0, h1, h2, trivial⟩
  | cons e r ih =>
    intro lo h h0 he h1 h2
    have := he e (List.mem_cons_self ..)
    exact ⟨h.1, h.2.1, h.2.2.1, ih h.2.2.2 (by omega) (fun f hf => he f (List.mem_cons_of_mem _ hf)) h1 h2⟩

theorem canon_split {pre : List (Int × Int)} {s n : Int} : ∀ {lo : Int}, Canon lo (pre ++ [(s, n)]) → Canon lo pre ∧ lo ≤ s ∧ (∀ e ∈ pre, e.1 + e.2 < s) ∧ 1 ≤ n ∧ s + n ≤ 4096 := by
  induction pre with
  | nil => intro lo h; exact ⟨trivial, h.1, by simp, h.2.1, h.2.2.1⟩
  | cons e r ih =>
    intro lo h
    obtain ⟨a, b, c, d, f⟩ := ih h.2.2.2
    have := h.2.1
    refine ⟨⟨h.1, h.2.1, h.2.2.1, a⟩, by have := h.1; omega, fun g hg => ?_, d, f⟩
    rcases List.mem_cons.1 hg with rfl | hg
    · omega
    · exact c g hg

theorem canon_each {l : List (Int × Int)} : ∀ {lo : Int}, Canon lo l → ∀ e ∈ l, lo ≤ e.1 ∧ 1 ≤ e.2 ∧ e.1 + e.2 ≤ 4096 := by
  induction l with
  | nil => intro lo _ e he; cases he
  | cons f r ih =>
    intro lo h e he
    rcases List.mem_cons.1 he with rfl | he
    · exact ⟨h.1, h.2.1, h.2.2.1⟩
    · have := ih h.2.2.2 e he
      have := h.1
      have := h.2.1
      omega

theorem canon_length {l : List (Int × Int)} : ∀ {lo : Int}, Canon lo l → 2 * (l.length : Int) ≤ 4098 - lo ∨ l = [] := by
  induction l with
  | nil => intro lo _; right; rfl
  | cons f r ih =>
    intro lo h
    left
    have h1 := h.1
    have h2 := h.2.1
    have h3 := h.2.2.1
    rcases ih h.2.2.2 with h4 | h4
    · simp only [List.length_cons]; omega
    · subst h4; simp; omega

/-! ### The list of the marked sectors, as a scan makes it. m: the marks of the sectors 0 .. -/
def LInv (m : Int → Bool) (i : Nat) (out : List (Int × Int)) : Prop :=
  Canon 0 out ∧ (∀ x, mem out x = (decide (0 ≤ x ∧ x < i) && m x)) ∧
    ((0 < i ∧ m (i - 1) = true ∧ ∃ (pre : List (Int × Int)) (s n : Int), out = pre ++ [(s, n)] ∧ s + n = i) ∨ ((0 < i → m (i - 1) = false) ∧ ∀ e ∈ out, e.1 + e.2 < i))

theorem LInv.start (m : Int → Bool) : LInv m 0 [] :=
  ⟨trivial, fun x => by rw [mem_nil]; have : decide (0 ≤ x ∧ x < ((0 : Nat) : Int)) = false := by simp
                        rw [this]; rfl, .inr ⟨fun h => absurd h (by omega), fun e he => by cases he⟩⟩
theorem LInv.skip {m : Int → Bool} {i : Nat} {out : List (Int × Int)} (h : LInv m i out) (hm : m i = false) : LInv m (i + 1) out := by
  obtain ⟨h1, h2, h3⟩ := h
  refine ⟨h1, fun x => ?_, .inr ⟨fun _ => by rw [← hm]; congr 1; omega, ?_⟩⟩
  · rw [h2 x]
    by_cases hx : x = i
    · subst hx; simp [hm]
    · congr 1
      simp only [decide_eq_decide]
      omega
  · rcases h3 with ⟨hi, _, pre, s, n, rfl, hs⟩ | ⟨_, he⟩
    · obtain ⟨_, _, a, _, _⟩ := canon_split h1
      intro e hm
      rcases List.mem_append.1 hm with h | h
      · have := a e h
        have := (canon_split h1).2.2.2.1
        omega
      · simp at h; subst h; simp; omega
    · intro e hm
      have := he e hm
      omega
theorem LInv.longer {m : Int → Bool} {i : Nat} {pre : List (Int × Int)} {s n : Int} (h : LInv m i (pre ++ [(s, n)])) (hm : m i = true) (hi : i < 4096) (hsn : s + n = i) : LInv m (i + 1) (pre ++ [(s, n + 1)]) := by
  obtain ⟨h1, h2, h3⟩ := h
  obtain ⟨c1, c2, c3, c4, c5⟩ := canon_split h1
  refine ⟨canon_snoc c1 c2 c3 (by omega) (by omega), fun x => ?_, .inl ⟨by omega, by rw [← hm]; congr 1; omega, pre, s, n + 1, rfl, by omega⟩⟩
  have h := h2 x
  rw [mem_append] at h ⊢
  rw [mem_cons, mem_nil, Bool.or_false] at h ⊢
  by_cases hx : x = i
  · subst hx
    have e1 : inE (s, n + 1) (i : Int) = true := by rw [inE_iff]; simp only; omega
    have e2 : decide ((0 : Int) ≤ (i : Int) ∧ (i : Int) < ((i + 1 : Nat) : Int)) = true := by simp; omega
    rw [e1, e2, hm]; simp
  · have e1 : inE (s, n + 1) x = inE (s, n) x := by
      simp only [inE, decide_eq_decide]; omega
    have e2 : decide (0 ≤ x ∧ x < ((i + 1 : Nat) : Int)) = decide (0 ≤ x ∧ x < (i : Int)) := by
      simp only [decide_eq_decide]; omega
    rw [e1, e2, h]
theorem LInv.fresh {m : Int → Bool} {i : Nat} {out : List (Int × Int)} (h : LInv m i out) (hm : m i = true) (hi : i < 4096) (hp : 0 < i → m (i - 1) = false) : LInv m (i + 1) (out ++ [((i : Int), 1)]) := by
  obtain ⟨h1, h2, h3⟩ := h
  have he : ∀ e ∈ out, e.1 + e.2 < i := by
    rcases h3 with ⟨a, b, _⟩ | ⟨_, b⟩
    · rw [hp a] at b; cases b
    · exact b
  refine ⟨canon_snoc h1 (by omega) he (by omega) (by omega), fun x => ?_, .inl ⟨by omega, by rw [← hm]; congr 1; omega, out, i, 1, rfl, by omega⟩⟩
  rw [mem_append, h2 x, mem_cons, mem_nil, Bool.or_false]
  by_cases hx : x = i
  · subst hx
    have e1 : inE ((i : Int), 1) (i : Int) = true := by rw [inE_iff]; simp only; omega
    have e2 : decide ((0 : Int) ≤ (i : Int) ∧ (i : Int) < ((i + 1 : Nat) : Int)) = true := by simp; omega
    rw [e1, e2, hm]; simp
  · have e1 : inE ((i : Int), 1) x = false := by
      simp only [inE, decide_eq_false_iff_not]; omega
    have e2 : decide (0 ≤ x ∧ x < ((i + 1 : Nat) : Int)) = decide (0 ≤ x ∧ x < (i : Int)) := by
      simp only [decide_eq_decide]; omega
    rw [e1, e2, Bool.or_false]
theorem LInv.prev {m : Int → Bool} {i : Nat} {out : List (Int × Int)} (h : LInv m i out) (hi : 0 < i) (hm : m (i - 1) = true) : ∃ (pre : List (Int × Int)) (s n : Int), out = pre ++ [(s, n)] ∧ s + n = i := by
  rcases h.2.2 with ⟨_, _, h⟩ | ⟨h, _⟩
  · exact h
  · rw [h hi] at hm; cases hm
end Go.Proofs.Ytoefbgkeinhibaa.Xt
