/- Queues in order, on lists; until. -/
import Derived.Test.YtjpfogdfgcfkcaaJ
namespace Go.Proofs.Ytjpfogdfgcfkcaa
open Go.RowKit Go.Lib

def ltE (a b : Ec) : Prop := a.1 < b.1 ∨ (a.1 = b.1 ∧ a.2.1 < b.2.1)
theorem ltE_trans {a b c : Ec} (h : ltE a b) (k : ltE b c) : ltE a c := by unfold ltE at *; omega
theorem cmpE_pos {t n t' n' : Int} (h : ¬ cmpE t n t' n' ≤ 0) : t' < t ∨ (t' = t ∧ n' < n) := by
  unfold cmpE orI cmpI at h
  by_cases h1 : t < t'
  · simp [h1] at h
  · by_cases h2 : t' < t
    · exact .inl h2
    · have e : t' = t := by omega
      subst e
      simp at h
      by_cases h3 : n < n'
      · simp [h3] at h
      · by_cases h4 : n' < n
        · exact .inr ⟨rfl, h4⟩
        · simp [h3, h4] at h
theorem cmpE_ge {t n t' n' : Int} : decide (0 ≤ cmpE t n t' n') = decide (t' < t ∨ (t' = t ∧ n' ≤ n)) := by
  rw [decide_eq_decide]
  unfold cmpE orI cmpI
  by_cases h1 : t < t'
  · simp [h1] <;> omega
  · by_cases h2 : t' < t
    · simp [h1, h2]
    · have e : t' = t := by omega
      subst e
      simp
      by_cases h3 : n < n'
      · simp [h3] <;> omega
      · by_cases h4 : n' < n
        · simp [h3, h4] <;> omega
        · simp [h3, h4] <;> omega
theorem prevE_some {pre : List Ec} {q e : Ec} (h : pre.getLast? = some q) : prevE pre e = badE e q := by unfold prevE; rw [h]
theorem chkR_ok (next : Int) : ∀ (r pre : List Ec), pre.Pairwise ltE → chkR next pre r = 0 → (∀ e ∈ r, fldC e next = 0) ∧ (pre ++ r).Pairwise ltE := by
  intro r
  induction r with
  | nil => intro pre hp _; exact ⟨fun e he => (by cases he), by simpa using hp⟩
  | cons e r ih =>
    intro pre hp h
    rw [chkR_cons] at h
    by_cases h0 : fldC e next = 0
    · rw [if_neg (by rw [h0]; simp)] at h
      by_cases h1 : prevE pre e = true
      · rw [if_pos h1] at h; omega
      · rw [if_neg h1] at h
        by_cases h2 : seenE pre e.2.1 = true
        · rw [if_pos h2] at h; omega
        · rw [if_neg h2] at h
          have hpe : (pre ++ [e]).Pairwise ltE := by
            rw [List.pairwise_append]
            refine ⟨hp, List.pairwise_singleton _ _, fun a ha b hb => ?_⟩
            rw [List.mem_singleton] at hb
            subst hb
            rcases hl : pre.getLast? with _ | q
            · rw [List.getLast?_eq_none_iff] at hl; subst hl; cases ha
            · have hb := h1
              rw [prevE_some hl] at hb
              unfold badE at hb
              have hlt := cmpE_pos (fun hc => hb (decide_eq_true hc))
              have hq : ltE q b := by unfold ltE; omega
              obtain ⟨p', hp'⟩ : ∃ p', pre = p' ++ [q] := by
                rcases List.getLast?_eq_some_iff.1 hl with ⟨p', hp'⟩
                exact ⟨p', hp'⟩
              rw [hp'] at ha hp
              rcases List.mem_append.1 ha with ha | ha
              · exact ltE_trans ((List.pairwise_append.1 hp).2.2 a ha q (List.mem_singleton.2 rfl)) hq
              · rw [List.mem_singleton] at ha; subst ha; exact hq
          obtain ⟨i1, i2⟩ := ih (pre ++ [e]) hpe h
          refine ⟨fun x hx => ?_, by simpa using i2⟩
          rcases List.mem_cons.1 hx with rfl | hx
          · exact h0
          · exact i1 x hx
    · rw [if_pos h0] at h; exact absurd h h0
theorem chk_ok {l : List Ec} {next : Int} (h : chk l next = 0) : l.length ≤ 4096 ∧ 0 ≤ next ∧ next ≤ 1073741824 ∧ (∀ e ∈ l, fldC e next = 0) ∧ l.Pairwise ltE := by
  unfold chk at h
  split at h
  · omega
  · split at h
    · omega
    · rename_i h1 h2
      obtain ⟨i1, i2⟩ := chkR_ok next l [] List.Pairwise.nil h
      exact ⟨by omega, by omega, by omega, i1, i2⟩
theorem fldC_ok {e : Ec} {next : Int} (h : fldC e next = 0) : 0 ≤ e.1 ∧ e.1 ≤ 1073741824 ∧ 0 ≤ e.2.2.1 ∧ 0 ≤ e.2.2.2.1 ∧ 0 ≤ e.2.1 ∧ e.2.1 < next ∧ e.2.2.2.2.length ≤ 4096 := by
  unfold fldC fldI at h
  split at h
  · omega
  · split at h
    · omega
    · split at h
      · omega
      · omega

/-- How many events stand ahead of a time. -/
def unt (l : List Ec) (t : Int) : Nat := (l.takeWhile (fun x => decide (x.1 ≤ t))).length
theorem unt_of {t : Int} : ∀ {l : List Ec} {r : Nat}, r ≤ l.length → (∀ i x, i < r → l[i]? = some x → x.1 ≤ t) → (∀ i x, r ≤ i → l[i]? = some x → t < x.1) → unt l t = r := by
  intro l
  induction l with
  | nil => intro r hr _ _; simp at hr; subst hr; rfl
  | cons e l ih =>
    intro r hr h1 h2
    unfold unt
    rcases r with _ | r
    · have := h2 0 e (Nat.le_refl _) rfl
      rw [List.takeWhile_cons, if_neg (by simp; omega)]
      rfl
    · have := h1 0 e (by omega) rfl
      rw [List.takeWhile_cons, if_pos (by simp; omega), List.length_cons]
      have h := ih (r := r) (by simpa using hr) (fun i x hi hx => h1 (i + 1) x (by omega) (by simpa using hx)) (fun i x hi hx => h2 (i + 1) x (by omega) (by simpa using hx))
      unfold unt at h
      rw [h]
def PL (l : List Ec) (t next : Int) (i : Nat) : Bool := match l[i]? with
  | none => true
  | some x => decide (0 ≤ cmpE x.1 x.2.1 t next)
theorem PL_some {l : List Ec} {t next : Int} {i : Nat} {x : Ec} (h : l[i]? = some x) : PL l t next i = decide (0 ≤ cmpE x.1 x.2.1 t next) := by unfold PL; rw [h]
set_option maxRecDepth 100000 in
theorem until_any (l : List Ev) (A : Option Addr) (n c : Nat) (t next : Int) (w : World) (hv : EL w (.slice A n c) l) (hn : l.length = n) (hok : chk (l.map core) next = 0) :
    Calls Try.prog 34 #[.agg #[.slice A n c, .int .i64 next], .int .i64 t] w fun e w' => e = .returned (.int .i64 (unt (l.map core) t : Nat)) ∧ Below w.heap.size w w' := by
  obtain ⟨h1, h2, h3, h4, h5⟩ := chk_ok hok
  rw [List.length_map, hn] at h1
  have hlt : ∀ i j x y, i < j → (l.map core)[i]? = some x → (l.map core)[j]? = some y → ltE x y := fun i j x y hij hx hy => by
    obtain ⟨a1, a2⟩ := List.getElem?_eq_some_iff.1 hx
    obtain ⟨b1, b2⟩ := List.getElem?_eq_some_iff.1 hy
    have := (List.pairwise_iff_getElem.1 h5) i j a1 b1 hij
    rw [a2, b2] at this
    exact this
  refine (untilP_any l A n c t next (PL (l.map core) t next) w hv hn (by omega) (fun i x hx => PL_some (x := core x) (by rw [List.getElem?_map, hx]; rfl)) (fun i j hij hj hp => ?_)).mono ?_
  · rcases Nat.lt_or_ge i j with h | h
    · obtain ⟨x, hx⟩ : ∃ x, (l.map core)[i]? = some x := ⟨(l.map core)[i]'(by rw [List.length_map]; omega), List.getElem?_eq_getElem _⟩
      obtain ⟨y, hy⟩ : ∃ y, (l.map core)[j]? = some y := ⟨(l.map core)[j]'(by rw [List.length_map]; omega), List.getElem?_eq_getElem _⟩
      rw [PL_some hx, cmpE_ge] at hp
      rw [PL_some hy, cmpE_ge]
      have hp' := of_decide_eq_true hp
      have hxy := hlt i j x y h hx hy
      have hxn := (fldC_ok (h4 x (List.mem_of_getElem? hx))).2.2.2.2.2.1
      unfold ltE at hxy
      exact decide_eq_true (by omega)
    · have : i = j := by omega
      subst this; exact hp
  · rintro e w' ⟨⟨r, rfl, hr, h6, h7⟩, hb⟩
    refine ⟨?_, hb⟩
    have : unt (l.map core) t = r := by
      refine unt_of (by rw [List.length_map]; omega) (fun i x hi hx => ?_) (fun i x hi hx => ?_)
      · have := h6 i hi
        rw [PL_some hx, cmpE_ge] at this
        have := of_decide_eq_false this
        omega
      · have hin : i < n := by have := (List.getElem?_eq_some_iff.1 hx).1; rw [List.length_map] at this; omega
        have := h7 i hi hin
        rw [PL_some hx, cmpE_ge] at this
        have := of_decide_eq_true this
        have hxn := (fldC_ok (h4 x (List.mem_of_getElem? hx))).2.2.2.2.2.1
        omega
    rw [this]
end Go.Proofs.Ytjpfogdfgcfkcaa
