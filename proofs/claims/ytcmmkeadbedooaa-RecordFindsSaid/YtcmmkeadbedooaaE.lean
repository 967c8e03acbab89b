/- Records on lists: scanning, mixed sectors, a changed byte. -/
import Derived.Test.YtcmmkeadbedooaaD
namespace Go.Proofs.Ytcmmkeadbedooaa

/-- What Scan finds with some fuel, from the number q on. -/
def scn : Nat → List Sect → Nat → List Rc × Nat
  | 0, _, _ => ([], 0)
  | f + 1, l, q => match dR l with
    | .error _ => ([], 0)
    | .ok (r, n) => if r.2.1 = q then (r :: (scn f (l.drop n) (q + 1)).1, n + (scn f (l.drop n) (q + 1)).2) else ([], 0)
def scan (l : List Sect) (q : Int) : List Rc × Nat := if q < 1 then ([], 0) else scn (l.length + 1) l q.toNat
theorem scn_err {f : Nat} {l : List Sect} {q : Nat} {er : Int} (h : dR l = .error er) : scn (f + 1) l q = ([], 0) := by
  rw [scn, h]
theorem scn_ne {f : Nat} {l : List Sect} {q n : Nat} {r : Rc} (h : dR l = .ok (r, n)) (hq : r.2.1 ≠ q) : scn (f + 1) l q = ([], 0) := by
  rw [scn, h]; exact if_neg hq
theorem scn_ok {f : Nat} {l : List Sect} {q n : Nat} {r : Rc} (h : dR l = .ok (r, n)) (hq : r.2.1 = q) : scn (f + 1) l q = (r :: (scn f (l.drop n) (q + 1)).1, n + (scn f (l.drop n) (q + 1)).2) := by
  rw [scn, h]; exact if_pos hq
theorem dS_inv {s : Sect} {l : List Sect} {x : Rc × Nat} (h : dS s l = .ok x) :
    num s ≠ 0 ∧ lenOf s ≤ 4096 ∧ size (lenOf s) ≤ l.length ∧ others (num s) (l.take (size (lenOf s))) = false ∧ dB (num s) (size (lenOf s)) (lenOf s) (dts (l.take (size (lenOf s)))) = .ok x := by
  unfold dS at h
  split at h
  · cases h
  · split at h
    · cases h
    · split at h
      · cases h
      · rename_i h1 h2 h3
        refine ⟨h1, by omega, by omega, ?_, h⟩
        rcases ho : others (num s) (l.take (size (lenOf s))) with _ | _
        · rfl
        · exact absurd (.inr ho) h3
theorem dB_inv {q n m : Nat} {b : List Nat} {x : Rc × Nat} (h : dB q n m b = .ok x) : ge (b.take 1) ≠ 0 ∧ x = ((ge (b.take 1), q, (b.drop 3).take m), n) := by
  unfold dB at h
  split at h
  · cases h
  · split at h
    · cases h
    · rename_i h1 h2
      injection h with h
      exact ⟨fun e => h2 (.inl e), h.symm⟩
theorem size_two (n : Nat) : 2 ≤ size n := by unfold size; omega
theorem dR_inv {l : List Sect} {r : Rc} {n : Nat} (h : dR l = .ok (r, n)) : 2 ≤ n ∧ n ≤ l.length ∧ r.2.1 ≠ 0 ∧ r.1 ≠ 0 ∧ r.2.2.length ≤ 4096 := by
  rcases l with _ | ⟨s, t⟩
  · cases h
  · obtain ⟨h1, h2, h3, _, h5⟩ := dS_inv (show dS s (s :: t) = _ from h)
    obtain ⟨h6, h7⟩ := dB_inv h5
    injection h7 with h7 h8
    subst h7 h8
    refine ⟨size_two _, h3, h1, h6, ?_⟩
    simp only [List.length_take]
    omega
/-- More fuel than there are sectors changes nothing. -/
theorem scn_fuel (f : Nat) : ∀ (g : Nat) (l : List Sect) (q : Nat), l.length < f → l.length < g → scn f l q = scn g l q := by
  induction f with
  | zero => intro g l q h; omega
  | succ f ih =>
    intro g l q hf hg
    obtain ⟨g, rfl⟩ : ∃ g', g = g' + 1 := ⟨g - 1, by omega⟩
    rcases hd : dR l with er | ⟨r, n⟩
    · rw [scn_err hd, scn_err hd]
    · by_cases hq : r.2.1 = q
      · have hi := dR_inv hd
        rw [scn_ok hd hq, scn_ok hd hq, ih g (l.drop n) (q + 1) (by rw [List.length_drop]; omega) (by rw [List.length_drop]; omega)]
      · rw [scn_ne hd hq, scn_ne hd hq]
theorem scn_fuel' {l : List Sect} {n q : Nat} (h : 2 ≤ n) (hn : n ≤ l.length) : scn l.length (l.drop n) q = scn ((l.drop n).length + 1) (l.drop n) q :=
  scn_fuel _ _ _ _ (by rw [List.length_drop]; omega) (by omega)

/- Mixed sectors. -/
theorem dR_mixed {kx qx ky qy : Nat} {px py : List Nat} (hx8 : B8 px) (hpx : px.length ≤ 4096) (hx0 : 0 < kx) (hx1 : kx < 256) (hqx : qx < 4294967296) (hqy : qy < 4294967296) (hne : qx ≠ qy)
    {c t : List Sect} (hc : c = (le 4 qx ++ (ful kx px).take 4) :: t) (h : ∀ (i : Nat) (s : Sect), c[i]? = some s → (encR kx qx px)[i]? = some s ∨ (encR ky qy py)[i]? = some s) {r : Rc} {n : Nat} (hd : dR c = .ok (r, n)) : r = (kx, qx, px) := by
  have hlo := lenOf_head kx qx px hpx
  have hnu := num_head kx qx px hqx
  have hL := encR_len kx qx px
  have e : dR c = dS (le 4 qx ++ (ful kx px).take 4) c := by rw [hc]; rfl
  rw [e] at hd
  obtain ⟨_, _, h3, h4, h5⟩ := dS_inv hd
  rw [hlo] at h3 h4 h5
  rw [hnu] at h4 h5
  have htk : c.take (size px.length) = encR kx qx px := by
    apply List.ext_getElem?
    intro i
    by_cases hi : i < size px.length
    · rw [List.getElem?_take, if_pos hi]
      have hic : i < c.length := by omega
      have hci := List.getElem?_eq_getElem hic
      rcases h i _ hci with h1 | h1
      · rw [hci, h1]
      · exfalso
        have hy := num_pk qy _ hqy _ _ (List.mem_of_getElem? h1)
        unfold others at h4
        rw [List.any_eq_false] at h4
        have := h4 (c[i]) (List.mem_of_getElem? (i := i) (by rw [List.getElem?_take, if_pos hi]; exact hci))
        simp [hy] at this
        exact hne this.symm
    · rw [List.getElem?_eq_none (by rw [List.length_take]; omega), List.getElem?_eq_none (by omega)]
  rw [htk] at h5
  unfold encR at h5
  rw [dts_pk _ _ _ (pad_len (by rw [ful_len]; exact size_le _)), dB_enc hx8 hx0 hx1] at h5
  injection h5 with h5
  injection h5 with h5 _
  exact h5.symm
theorem dR_mix {kx qx ky qy : Nat} {px py : List Nat} (hx8 : B8 px) (hpx : px.length ≤ 4096) (hx0 : 0 < kx) (hx1 : kx < 256) (hqx : qx < 4294967296)
    (hy8 : B8 py) (hpy : py.length ≤ 4096) (hy0 : 0 < ky) (hy1 : ky < 256) (hqy : qy < 4294967296) (hne : qx ≠ qy)
    {c : List Sect} (h : ∀ (i : Nat) (s : Sect), c[i]? = some s → (encR kx qx px)[i]? = some s ∨ (encR ky qy py)[i]? = some s) {r : Rc} {n : Nat} (hd : dR c = .ok (r, n)) : r = (kx, qx, px) ∨ r = (ky, qy, py) := by
  rcases c with _ | ⟨s, t⟩
  · cases hd
  · rcases h 0 s rfl with h0 | h0
    · obtain ⟨u, hu⟩ := encR_cons kx qx px
      rw [hu] at h0
      injection h0 with h0
      exact .inl (dR_mixed hx8 hpx hx0 hx1 hqx hqy hne (t := t) (by rw [h0]) h hd)
    · obtain ⟨u, hu⟩ := encR_cons ky qy py
      rw [hu] at h0
      injection h0 with h0
      exact .inr (dR_mixed hy8 hpy hy0 hy1 hqy hqx (fun e => hne e.symm) (t := t) (by rw [h0]) (fun i s hs => (h i s hs).symm) hd)
end Go.Proofs.Ytcmmkeadbedooaa
