/- The reader's take, extent. -/
import Derived.Test.YtchpoddfjbopbaaR
namespace Go.Proofs.Ytchpoddfjbopbaa
open Go.RowKit Go.Lib

theorem byt_take {w : World} {A : Option Addr} {cap n : Nat} {x : List Nat} (h : Byt w (.slice A x.length cap) x) (hn : n ≤ x.length) : Byt w (.slice A n cap) (x.take n) := by
  obtain ⟨h8, A', cap', e, h1, h2, b, off, hA, hc⟩ := h
  injection e with e1 e2 e3
  subst e1 e3
  refine ⟨fun y hy => h8 y (List.mem_of_mem_take hy), A, cap, by rw [List.length_take, Nat.min_eq_left hn], by rw [List.length_take]; omega, h2, b, off, fun h => hA (by rw [List.length_take] at h; omega), fun i y hy => ?_⟩
  rw [List.getElem?_take] at hy
  split at hy
  · exact hc i y hy
  · cases hy
theorem byt_none {w : World} {n c : Nat} {l : List Nat} (h : Byt w (.slice none n c) l) : l = [] := by
  obtain ⟨_, A, cap, e, h1, h2, b, off, hA, _⟩ := h
  injection e with e1
  rcases Nat.eq_zero_or_pos l.length with h0 | h0
  · exact List.eq_nil_of_length_eq_zero h0
  · have := (hA h0).1
    rw [← e1] at this
    cases this

/-- What take answers. -/
def Took (w0 w : World) (g : Nat) (s : List Nat) (er : Int) (n : Nat) (e : Ending) (w' : World) : Prop :=
  ∃ v, e = .returned v ∧ NilOk v ∧ Upd g w w' ∧ ((n ≤ s.length ∧ Byt w0 v (s.take n) ∧ Rd w0 w' g (s.drop n) er) ∨ (s.length < n ∧ v = .slice none 0 0 ∧ Rd w0 w' g [] (if er = 0 then 10 else er)))
set_option maxHeartbeats 2000000 in
set_option maxRecDepth 100000 in
theorem take_any (s : List Nat) (er : Int) (n g : Nat) (w0 w : World) (hr : Rd w0 w g s er) (hn : n ≤ 65536) (hl : s.length ≤ 90000) :
    Calls Try.prog 94 #[.pointer (some ⟨g, 0, none⟩), .int .i64 (n : Int)] w (Took w0 w g s er n) := by
  have HF : Hid (Calls Try.prog 93 #[.pointer (some ⟨g, 0, none⟩), .int .i64 10] w (Failed w0 w g (if er = 0 then 10 else er))) := hid (by
    by_cases h : er = 0
    · subst h; exact fail_new s 10 g w0 w hr
    · rw [if_neg h]; exact fail_old s 10 er g w0 w hr h)
  obtain ⟨v, hb, hv, hno⟩ := hr
  obtain ⟨A, c, rfl⟩ := byt_form hv
  have hcp := byt_cap hv
  have c0 : w.cell? ⟨g, 0, none⟩ = some (.slice A s.length c) := cell_of_row _ _ 0 _ _ _ hb
  have f0 := box_fr hb 0
  have HB := hid hb
  have HV := hid hv
  have HNO := hid hno
  clear hb hv hno
  by_cases hlt : s.length < n
  · have d1 : decide (s.length < n) = true := decide_eq_true hlt
    go_enter Try.func94, Try.ntmps94
    go_wp2_with fail
    refine HF.out.mono ?_
    rintro e w1 ⟨⟨v1, rfl⟩, hu, hr⟩
    have HU := hid hu
    have HR := hid hr
    clear hu hr
    go_wp2
    go_ret
    exact ⟨_, rfl, nilOk_nil, HU.out, .inr ⟨hlt, rfl, HR.out⟩⟩
  · have d1 : decide (s.length < n) = false := decide_eq_false hlt
    rcases A with _ | ad
    · obtain rfl := byt_none HV.out
      have hc0 := HNO.out _ _ rfl
      subst hc0
      obtain rfl : n = 0 := by simp at hlt; omega
      clear d1
      go_enter Try.func94, Try.ntmps94
      go_wp2
      go_ret
      exact ⟨_, rfl, nilOk_nil, (Upd.refl g w).set 0 _, .inl ⟨by simp, byt_nil _, _, box_s0 HB.out _, byt_nil _, nilOk_nil⟩⟩
    · have HT := hid (byt_take HV.out (n := n) (by omega))
      have HFr := hid (byt_from HV.out (k := n) (by omega))
      by_cases hck : c = n
      · have e4 : fromA (some ad) c n = some ad := if_pos hck
        rw [e4] at HFr
        subst hck
        clear e4
        rw [Nat.sub_self, show s.length - c = 0 by omega] at HFr
        go_enter Try.func94, Try.ntmps94
        go_wp2
        go_ret
        exact ⟨_, rfl, nilOk_some _ _ _, (Upd.refl g w).set 0 _, .inl ⟨by omega, HT.out, _, box_s0 HB.out _, HFr.out, nilOk_some _ _ _⟩⟩
      · have e4 : fromA (some ad) c n = some (ad.add n) := by unfold fromA; rw [if_neg hck]; rfl
        rw [e4] at HFr
        clear e4
        go_enter Try.func94, Try.ntmps94
        go_wp2
        go_ret
        exact ⟨_, rfl, nilOk_some _ _ _, (Upd.refl g w).set 0 _, .inl ⟨by omega, HT.out, _, box_s0 HB.out _, HFr.out, nilOk_some _ _ _⟩⟩
end Go.Proofs.Ytchpoddfjbopbaa
