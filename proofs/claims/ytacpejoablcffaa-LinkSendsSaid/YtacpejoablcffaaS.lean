/- Runs, on lists. -/
import Derived.Test.YtacpejoablcffaaR
namespace Go.Proofs.Ytacpejoablcffaa
open Go.RowKit Go.Lib

/-- A run so far: the link, its flights, the choices left, the time, the times, the ends, the copies. -/
structure Rn where
  s : Lk
  l : List Fc
  rest : List Int
  now : Int
  ts : List Int
  ids : List Int
  cps : List Int
def run0 (mn mx rt : Int) (ch : List Int) : Rn := ⟨⟨mn, mx, rt, false, 0, 0⟩, [], ch, 0, [], [], []⟩
def rnow (r : Rn) (st : Nat × Nat) : Int := r.now + ((st.2 % 20 : Nat) : Int)
def rid (r : Rn) (i : Nat) (st : Nat × Nat) : Int := max (rnow r st) r.s.idle + tik (pay st.1 i).length r.s.rt
def rds (r : Rn) : List Int := dls r.s.mn (r.s.mx - r.s.mn + 1) (arr r.rest) r.rest.tail
def step1 (r : Rn) (i : Nat) (st : Nat × Nat) : Rn :=
  ⟨⟨r.s.mn, r.s.mx, r.s.rt, r.s.dn, rid r i st, r.s.next + (arr r.rest : Int)⟩, lau (rid r i st) (pay st.1 i) (rds r) r.s.next r.l, r.rest.drop (arr r.rest + 1), rnow r st, r.ts ++ [rnow r st], r.ids ++ [rid r i st], r.cps ++ [(arr r.rest : Int)]⟩
def runK (mn mx rt : Int) (ch : List Int) (sts : List (Nat × Nat)) : Nat → Rn
  | 0 => run0 mn mx rt ch
  | k + 1 => match sts[k]? with
    | none => runK mn mx rt ch sts k
    | some st => step1 (runK mn mx rt ch sts k) k st
/-- What holds of a run that fits. -/
structure InvR (mn mx rt : Int) (ch : List Int) (k : Nat) (r : Rn) : Prop where
  cmn : r.s.mn = mn
  cmx : r.s.mx = mx
  crt : r.s.rt = rt
  cdn : r.s.dn = false
  ok : OkL r.s r.l
  now0 : 0 ≤ r.now
  now1 : r.now ≤ 19 * k
  idle1 : r.s.idle ≤ 30 * k
  next1 : r.s.next = r.l.length
  len1 : r.l.length ≤ 2 * k
  rest1 : r.rest.length ≤ ch.length
  rest2 : ∀ x ∈ r.rest, x ∈ ch
  lts : r.ts.length = k
  lid : r.ids.length = k
  lcp : r.cps.length = k
  cp2 : ∀ x ∈ r.cps, 0 ≤ x ∧ x ≤ 2
  ts2 : ∀ x ∈ r.ts, 0 ≤ x ∧ x ≤ 1000
  id2 : ∀ x ∈ r.ids, 0 ≤ x ∧ x ≤ 1000
theorem pay_len (size number : Nat) : (pay size number).length ≤ 9 := by
  unfold pay
  rw [List.length_cons, List.length_range]
  omega
theorem pay_b8 (size number : Nat) (h : number < 256) : B8 (pay size number) := fun x hx => by
  unfold pay at hx
  rcases List.mem_cons.1 hx with rfl | hx
  · exact h
  · rw [List.mem_range] at hx
    omega
theorem tik_hi9 {m : Nat} {rate : Int} (hm : m ≤ 9) (h0 : 0 ≤ rate) : tik m rate ≤ 9 := by
  unfold tik
  split
  · omega
  · have hr : 1 ≤ rate := by omega
    have h2 : ((m : Int) + rate - 1) / rate < 10 := Int.ediv_lt_of_lt_mul (by omega) (by omega)
    omega
theorem inv0 (mn mx rt : Int) (ch : List Int) (h0 : 0 ≤ mn) (h1 : mn ≤ mx) (h2 : mx ≤ 100) (h3 : 0 ≤ rt) (h4 : rt ≤ 100) : InvR mn mx rt ch 0 (run0 mn mx rt ch) := by
  refine ⟨rfl, rfl, rfl, rfl, ⟨by unfold run0; dsimp only; omega, by unfold run0; dsimp only; omega, by unfold run0; dsimp only; omega, by unfold run0; simp, fun h => rfl, fun e he => by (unfold run0 at he; simp at he), List.Pairwise.nil, by unfold nums run0; simp⟩, Int.le_refl _, by unfold run0; dsimp only; omega, by unfold run0; dsimp only; omega, rfl, Nat.le_refl _, Nat.le_refl _, fun x hx => hx, rfl, rfl, rfl, fun x hx => (by cases hx), fun x hx => (by cases hx), fun x hx => (by cases hx)⟩
theorem lau_len (idle : Int) (p : List Nat) (ds : List Int) (next : Int) (l : List Fc) : (lau idle p ds next l).length = l.length + ds.length := by
  induction ds generalizing next l with
  | nil => simp [lau]
  | cons d ds ih => rw [lau, ih, insF_len, List.length_cons]; omega
theorem inv_step {mn mx rt : Int} {ch : List Int} {k : Nat} {r : Rn} (h : InvR mn mx rt ch k r) (h0 : 0 ≤ mn) (h1 : mn ≤ mx) (h2 : mx ≤ 100) (h3 : 0 ≤ rt) (hk : k < 20) (st : Nat × Nat) :
    InvR mn mx rt ch (k + 1) (step1 r k st) ∧ sendS r.s r.l (rnow r st) (pay st.1 k) r.rest = .ok ((step1 r k st).s, (step1 r k st).l, (step1 r k st).rest) := by
  have hn0 : 0 ≤ rnow r st ∧ rnow r st ≤ 19 * (k + 1 : Nat) := by
    have := h.now0; have := h.now1
    unfold rnow
    omega
  have hpl := pay_len st.1 k
  have htl := tik_lo (m := (pay st.1 k).length) (rate := r.s.rt) (by rw [h.crt]; exact h3)
  have hth := tik_hi9 (m := (pay st.1 k).length) (rate := r.s.rt) hpl (by rw [h.crt]; exact h3)
  have hid0 := h.ok.idle.1
  have hid1 := h.idle1
  have hi : 0 ≤ rid r k st ∧ rid r k st ≤ 30 * (k + 1 : Nat) := by
    unfold rid
    have : max (rnow r st) r.s.idle ≤ 30 * k + 20 := by omega
    omega
  have har := arr_le r.rest
  have hl1 := h.len1
  have hx1 := h.next1
  have hdl : (rds r).length = arr r.rest := dls_len _ _ _ _
  have hdr : ∀ d ∈ rds r, 0 ≤ d ∧ d ≤ 100 := by
    have hh : ∀ (n : Nat) (l : List Int), ∀ d ∈ dls r.s.mn (r.s.mx - r.s.mn + 1) n l, 0 ≤ d ∧ d ≤ 100 := by
      intro n
      induction n with
      | zero => intro l d hd; cases hd
      | succ n ih =>
        intro l d hd
        unfold dls at hd
        rcases List.mem_cons.1 hd with rfl | hd
        · have h5 := dec_lo l (n := r.s.mx - r.s.mn + 1) (by rw [h.cmn, h.cmx]; omega)
          have h6 := dec_hi l (n := r.s.mx - r.s.mn + 1) (by rw [h.cmn, h.cmx]; omega)
          rw [h.cmn, h.cmx] at h5 h6 ⊢
          omega
        · exact ih _ d hd
    exact hh _ _
  have hok := lau_ok h.ok h.cdn (rid r k st) (pay st.1 k) (by omega) (rds r) (by omega) (fun d hd => by have := hdr d hd; omega) (by rw [hdl]; omega) (by rw [hdl]; omega)
  rw [hdl] at hok
  refine ⟨⟨h.cmn, h.cmx, h.crt, h.cdn, hok, hn0.1, hn0.2, hi.2, ?_, ?_, ?_, fun x hx => h.rest2 x (List.mem_of_mem_drop hx), ?_, ?_, ?_, fun x hx => ?_, fun x hx => ?_, fun x hx => ?_⟩, ?_⟩
  · show r.s.next + (arr r.rest : Int) = ((lau (rid r k st) (pay st.1 k) (rds r) r.s.next r.l).length : Int)
    rw [lau_len, hdl]
    omega
  · show (lau (rid r k st) (pay st.1 k) (rds r) r.s.next r.l).length ≤ _
    rw [lau_len, hdl]
    omega
  · show (r.rest.drop (arr r.rest + 1)).length ≤ _
    rw [List.length_drop]
    have := h.rest1
    omega
  · show (r.ts ++ [rnow r st]).length = _
    rw [List.length_append, h.lts]; rfl
  · show (r.ids ++ [rid r k st]).length = _
    rw [List.length_append, h.lid]; rfl
  · show (r.cps ++ [(arr r.rest : Int)]).length = _
    rw [List.length_append, h.lcp]; rfl
  · rcases List.mem_append.1 hx with hx | hx
    · exact h.cp2 x hx
    · rw [List.mem_singleton] at hx; subst hx; omega
  · rcases List.mem_append.1 hx with hx | hx
    · exact h.ts2 x hx
    · rw [List.mem_singleton] at hx; subst hx; omega
  · rcases List.mem_append.1 hx with hx | hx
    · exact h.id2 x hx
    · rw [List.mem_singleton] at hx; subst hx; omega
  · have hck := (chk_iff r.s r.l).2 h.ok
    have htb : timeB (rnow r st) = true := by unfold timeB; exact decide_eq_true (by omega)
    unfold sendS
    rw [if_neg (by rw [hck]; simp), if_neg (by rw [htb]; simp), if_neg (by omega), if_neg (by rw [h.cdn]; simp)]
    rw [if_neg (by have : rid r k st = max (rnow r st) r.s.idle + tik (pay st.1 k).length r.s.rt := rfl; rw [← this, h.cmx]; omega), if_neg (by omega)]
    rfl
theorem runK_inv (mn mx rt : Int) (ch : List Int) (sts : List (Nat × Nat)) (h0 : 0 ≤ mn) (h1 : mn ≤ mx) (h2 : mx ≤ 100) (h3 : 0 ≤ rt) (h4 : rt ≤ 100) (hn : sts.length ≤ 20) : ∀ k, k ≤ sts.length → InvR mn mx rt ch k (runK mn mx rt ch sts k) := by
  intro k
  induction k with
  | zero => intro _; exact inv0 mn mx rt ch h0 h1 h2 h3 h4
  | succ k ih =>
    intro hk
    have hst : sts[k]? = some (sts[k]'(by omega)) := List.getElem?_eq_getElem _
    unfold runK
    rw [hst]
    exact (inv_step (ih (by omega)) h0 h1 h2 h3 (by omega) _).1
theorem runK_succ {mn mx rt : Int} {ch : List Int} {sts : List (Nat × Nat)} {k : Nat} {st : Nat × Nat} (h : sts[k]? = some st) : runK mn mx rt ch sts (k + 1) = step1 (runK mn mx rt ch sts k) k st := by
  rw [runK, h]
end Go.Proofs.Ytacpejoablcffaa
