/- Runs with equal delays and without choices, on lists. -/
import Derived.Test.YtacpejoablcffaaZa
namespace Go.Proofs.Ytacpejoablcffaa
open Go.RowKit Go.Lib

theorem unt_eq {l : List Fc} {t : Int} : ∀ {k : Nat}, k ≤ l.length → (∀ (j : Nat) (x : Fc), j < k → l[j]? = some x → x.1 ≤ t) → (∀ x, l[k]? = some x → t < x.1) → unt l t = k := by
  induction l with
  | nil => intro k hk _ _; simp at hk; subst hk; rfl
  | cons e r ih =>
    intro k hk h1 h2
    unfold unt
    rcases k with _ | k
    · rw [if_pos (h2 e rfl)]
    · have h3 := h1 0 e (by omega) rfl
      rw [if_neg (by omega), ih (k := k) (by simpa using hk) (fun j x hj hx => h1 (j + 1) x (by omega) (by simpa using hx)) (fun x hx => h2 x (by simpa using hx))]
theorem insF_end {l : List Fc} {f : Fc} (h : ∀ x ∈ l, x.1 ≤ f.1) : insF l f = l ++ [f] := by
  have e : unt l f.1 = l.length := unt_eq (Nat.le_refl _) (fun j x _ hx => h x (List.mem_of_getElem? hx)) (fun x hx => by rw [List.getElem?_eq_none (Nat.le_refl _)] at hx; cases hx)
  unfold insF
  rw [e, List.take_length, List.drop_length, List.append_nil]
section
variable {mn rt : Int} {sts : List (Nat × Nat)}
theorem idl_mono (h0 : 0 ≤ mn) (h2 : mn ≤ 100) (h3 : 0 ≤ rt) (h4 : rt ≤ 100) (hn : sts.length ≤ 20) {a : Nat} : ∀ b, a ≤ b → b ≤ sts.length → idl mn mn rt [] sts a ≤ idl mn mn rt [] sts b := by
  intro b
  induction b with
  | zero =>
    intro h _
    obtain rfl : a = 0 := by omega
    exact Int.le_refl _
  | succ b ih =>
    intro h hb
    by_cases e : a = b + 1
    · subst e; exact Int.le_refl _
    · have h5 := ih (by omega) (by omega)
      have h6 := idl_succ (ch := []) h0 (Int.le_refl mn) h2 h3 h4 hn (j := b) (by omega)
      have h7 := tik_lo (m := plen sts b) h3
      omega
/-- What the i-th payload is. -/
def po (sts : List (Nat × Nat)) (i : Nat) : List Nat := match sts[i]? with
  | none => []
  | some st => pay st.1 i
theorem po_at {i : Nat} {st : Nat × Nat} (h : sts[i]? = some st) : po sts i = pay st.1 i := by unfold po; rw [h]
/-- The flight of the i-th payload. -/
def flt (mn rt : Int) (sts : List (Nat × Nat)) (i : Nat) : Fc := (idl mn mn rt [] sts (i + 1) + mn, (i : Int), po sts i)
theorem ord_run (h0 : 0 ≤ mn) (h2 : mn ≤ 100) (h3 : 0 ≤ rt) (h4 : rt ≤ 100) (hn : sts.length ≤ 20) : ∀ k, k ≤ sts.length →
    (runK mn mn rt [] sts k).rest = [] ∧ (runK mn mn rt [] sts k).s.next = k ∧ (runK mn mn rt [] sts k).l = (List.range k).map (flt mn rt sts) := by
  intro k
  induction k with
  | zero => exact fun _ => ⟨rfl, rfl, rfl⟩
  | succ k ih =>
    intro hk
    obtain ⟨e1, e2, e3⟩ := ih (by omega)
    have hst : sts[k]? = some (sts[k]'(by omega)) := List.getElem?_eq_getElem _
    obtain ⟨st, e⟩ : ∃ st, sts[k]'(show k < sts.length by omega) = st := ⟨_, rfl⟩
    rw [e] at hst
    have hi := runK_inv mn mn rt [] sts h0 (Int.le_refl _) h2 h3 h4 hn k (by omega)
    have hs := runK_succ (mn := mn) (mx := mn) (rt := rt) (ch := []) hst
    have hid : idl mn mn rt [] sts (k + 1) = rid (runK mn mn rt [] sts k) k st := by unfold idl; rw [hs]; rfl
    rw [hs]
    obtain ⟨r, hr⟩ : ∃ r, runK mn mn rt [] sts k = r := ⟨_, rfl⟩
    rw [hr] at e1 e2 e3 hi hid ⊢
    have ha : arr r.rest = 1 := by rw [e1]; rfl
    have hd : rds r = [mn] := by
      unfold rds
      rw [ha, e1, hi.cmn]
      simp [dls, dec]
    refine ⟨?_, ?_, ?_⟩
    · show r.rest.drop (arr r.rest + 1) = []
      rw [e1]; rfl
    · show r.s.next + (arr r.rest : Int) = _
      rw [ha, e2]; rfl
    · show lau (rid r k st) (pay st.1 k) (rds r) r.s.next r.l = _
      rw [hd, e2, e3]
      unfold lau lau
      rw [insF_end, List.range_succ, List.map_append]
      · congr 1
        show [(_ : Fc)] = [flt mn rt sts k]
        unfold flt
        rw [po_at hst, hid]
      · intro x hx
        obtain ⟨i, hi1, rfl⟩ := List.mem_map.1 hx
        rw [List.mem_range] at hi1
        have h5 := idl_mono h0 h2 h3 h4 hn (a := i + 1) (k + 1) (by omega) (by omega)
        show idl mn mn rt [] sts (i + 1) + mn ≤ rid r k st + mn
        rw [← hid]
        omega
theorem flt_at {k j : Nat} (h : j < k) : ((List.range k).map (flt mn rt sts))[j]? = some (flt mn rt sts j) := by
  rw [List.getElem?_map, List.getElem?_range h]; rfl
theorem flt_drop {k d j : Nat} {x : Fc} (h : (((List.range k).map (flt mn rt sts)).drop d)[j]? = some x) : d + j < k ∧ x = flt mn rt sts (d + j) := by
  rw [List.getElem?_drop] at h
  have h1 := (List.getElem?_eq_some_iff.1 h).1
  rw [List.length_map, List.length_range] at h1
  rw [flt_at h1] at h
  injection h with h
  exact ⟨h1, h.symm⟩
end
theorem ok_drop {s : Lk} {l : List Fc} (h : OkL s l) (d : Nat) : OkL s (l.drop d) :=
  ⟨h.cfg, h.idle, h.next, by rw [List.length_drop]; have := h.len; omega, fun hd => by rw [h.down hd]; simp, fun e he => h.fld e (List.mem_of_mem_drop he), h.ord.sublist (List.drop_sublist _ _), h.nod.sublist ((List.drop_sublist _ _).map _)⟩
theorem nxt_at {s : Lk} {l : List Fc} {x : Fc} (h : OkL s l) (hx : l[0]? = some x) : nxtS s l = (x.1, true) := by
  unfold nxtS
  rw [if_neg (fun e => e ((chk_iff s l).2 h))]
  rcases l with _ | ⟨y, t⟩
  · cases hx
  · simp at hx; subst hx; rfl
theorem del_eq {s : Lk} {l : List Fc} {t : Int} {k : Nat} (h : OkL s l) (hk : k ≤ l.length) (h1 : ∀ (j : Nat) (x : Fc), j < k → l[j]? = some x → x.1 ≤ t) (h2 : ∀ x, l[k]? = some x → t < x.1) : delN s l t = k := by
  unfold delN
  rw [if_pos ((chk_iff s l).2 h), unt_eq hk h1 h2]
end Go.Proofs.Ytacpejoablcffaa
