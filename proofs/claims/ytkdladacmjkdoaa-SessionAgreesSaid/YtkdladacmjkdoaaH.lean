/- hello, welcome, reset. -/
import Derived.Test.YtkdladacmjkdoaaF
import Derived.Test.YtkdladacmjkdoaaE
namespace Go.Proofs.Ytkdladacmjkdoaa
open Go.RowKit Go.Lib
/-- What a handling leaves: the end, and what is sent. -/
def HandQ (g : Nat) (r : Ses × List Mes) (w : World) (f : Ending) (w' : World) : Prop := ∃ v, f = .returned v ∧ EndAt w' g r.1 ∧ MsgQ w.heap.size w' v r.2 ∧ Upd g w w'
def helloR (s : Ses) (x : Int) : Ses × List Mes :=
  if x ≤ s.n ∧ s.p = 0 then (s, [nm 7 s]) else if x < s.n then (s, []) else ({ s with n := x, p := 2, d := 0 }, [nm 6 { s with n := x, p := 2, d := 0 }])
def welcomeR (s : Ses) (x : Int) : Ses × List Mes :=
  if x ≠ s.n then (s, []) else if s.p = 1 then ({ s with p := 2, d := 0 }, []) else if s.p = 0 then (s, [nm 7 s]) else (s, [])
def resetR (s : Ses) (x : Int) : Ses × List Mes :=
  if s.n ≤ x then ({ s with n := x, p := 0, d := 0 }, []) else (s, [])
theorem hand_send {g : Nat} {s : Ses} {w w' : World} {v : Value} {l : List Mes} (h : EndAt w g s) (hm : MsgQ w.heap.size w' v l) (hb : Below w.heap.size w w') : HandQ g (s, l) w (.returned v) w' :=
  ⟨v, rfl, (hb.block _ (box_lt h)).trans h, hm, (Upd.refl g w).of_below hb⟩
theorem hand_none {g : Nat} {s' : Ses} {w w' : World} (h : EndAt w' g s') (hu : Upd g w w') : HandQ g (s', []) w (.returned (.slice none 0 0)) w' :=
  ⟨_, rfl, h, msgQ_nil _ _, hu⟩
set_option maxHeartbeats 4000000 in
set_option maxRecDepth 100000 in
theorem hello_any (g : Nat) (s : Ses) (x : Int) (w : World) (h : EndAt w g s) : Calls Try.prog 40 #[.pointer (some ⟨g, 0, none⟩), .int .i64 x] w (HandQ g (helloR s x) w) := by
  have H0 := hid h
  obtain ⟨x0, x1, x2, x3, x4, x5⟩ := load6 h
  have f := box_fr h
  have hx3 : (w.setCell ⟨g, 3, none⟩ (.int .i64 x)).heap[g]? = some (.cells (cS { s with n := x }) 71) := end_set3 h x
  have HE1 := hid (end_set3 h x)
  have HU1 := hid ((Upd.refl g w).set 3 (.int .i64 x))
  obtain ⟨R, hR⟩ : ∃ R, helloR s x = R := ⟨_, rfl⟩
  rw [hR]
  unfold helloR at hR
  clear h hx3
  obtain ⟨l, r, se, n, p, d⟩ := s
  simp only at x0 x1 x2 x3 x4 x5 hR
  by_cases a1 : x ≤ n
  · have b1 : decide (x ≤ n) = true := decide_eq_true a1
    by_cases p0 : p = 0
    · subst p0
      rw [if_pos ⟨a1, rfl⟩] at hR
      have HR := hid hR
      clear hR
      go_enter Try.func40, Try.ntmps40
      go_wp2_with (first | (go_at_call 33; refine (send_any g ⟨l, r, se, n, 0, d⟩ 7 _ H0.out).mono ?_; rintro e' w2 ⟨v, rfl, hm, hb⟩; have HM := hid hm; have HB := hid hb; clear hm hb))
      go_ret
      rw [← HR.out]
      exact hand_send H0.out HM.out HB.out
    have q0 : (p == 0) = false := by simp [p0]
    by_cases a2 : x < n
    · have b2 : decide (x < n) = true := decide_eq_true a2
      rw [if_neg (by omega)] at hR
      rw [if_pos a2] at hR
      have HR := hid hR
      clear hR
      go_enter Try.func40, Try.ntmps40
      go_wp2_with fail
      go_ret
      rw [← HR.out]
      exact hand_none H0.out (Upd.refl g w)
    have b2 : decide (x < n) = false := decide_eq_false a2
    rw [if_neg (by omega)] at hR
    rw [if_neg a2] at hR
    have HR := hid hR
    clear hR
    go_enter Try.func40, Try.ntmps40
    go_wp2_with (first | (go_at_call 32; refine (enter_any g ⟨l, r, se, x, p, d⟩ 2 0 _ HE1.out).mono ?_; rintro e' w1 ⟨rfl, he, hu⟩; have HE2 := hid he; have HU2 := hid hu; clear he hu) | (go_at_call 33; refine (send_any g ⟨l, r, se, x, 2, 0⟩ 6 _ HE2.out).mono ?_; rintro e' w2 ⟨v, rfl, hm, hb⟩; have HM := hid hm; have HB := hid hb; clear hm hb))
    go_ret
    rw [← HR.out]
    exact ⟨_, rfl, (HB.out.block _ (box_lt HE2.out)).trans HE2.out, HM.out.keep (HU1.out.trans HU2.out).low.size (fun _ _ _ h => h), (HU1.out.trans HU2.out).of_below HB.out⟩
  have b1 : decide (x ≤ n) = false := decide_eq_false a1
  have b2 : decide (x < n) = false := decide_eq_false (by omega)
  rw [if_neg (by omega)] at hR
  rw [if_neg (by omega)] at hR
  have HR := hid hR
  clear hR
  go_enter Try.func40, Try.ntmps40
  go_wp2_with (first | (go_at_call 32; refine (enter_any g ⟨l, r, se, x, p, d⟩ 2 0 _ HE1.out).mono ?_; rintro e' w1 ⟨rfl, he, hu⟩; have HE2 := hid he; have HU2 := hid hu; clear he hu) | (go_at_call 33; refine (send_any g ⟨l, r, se, x, 2, 0⟩ 6 _ HE2.out).mono ?_; rintro e' w2 ⟨v, rfl, hm, hb⟩; have HM := hid hm; have HB := hid hb; clear hm hb))
  go_ret
  rw [← HR.out]
  exact ⟨_, rfl, (HB.out.block _ (box_lt HE2.out)).trans HE2.out, HM.out.keep (HU1.out.trans HU2.out).low.size (fun _ _ _ h => h), (HU1.out.trans HU2.out).of_below HB.out⟩
set_option maxHeartbeats 4000000 in
set_option maxRecDepth 100000 in
theorem welcome_any (g : Nat) (s : Ses) (x : Int) (w : World) (h : EndAt w g s) : Calls Try.prog 41 #[.pointer (some ⟨g, 0, none⟩), .int .i64 x] w (HandQ g (welcomeR s x) w) := by
  have H0 := hid h
  obtain ⟨x0, x1, x2, x3, x4, x5⟩ := load6 h
  have f := box_fr h
  have hx3 : (w.setCell ⟨g, 3, none⟩ (.int .i64 x)).heap[g]? = some (.cells (cS { s with n := x }) 71) := end_set3 h x
  have HE1 := hid (end_set3 h x)
  have HU1 := hid ((Upd.refl g w).set 3 (.int .i64 x))
  obtain ⟨R, hR⟩ : ∃ R, welcomeR s x = R := ⟨_, rfl⟩
  rw [hR]
  unfold welcomeR at hR
  clear h hx3
  obtain ⟨l, r, se, n, p, d⟩ := s
  simp only at x0 x1 x2 x3 x4 x5 hR
  by_cases a1 : x = n
  rotate_left
  · have b1 : (x != n) = true := by simp [a1]
    rw [if_pos a1] at hR
    have HR := hid hR
    clear hR
    go_enter Try.func41, Try.ntmps41
    go_wp2_with fail
    go_ret
    rw [← HR.out]
    exact hand_none H0.out (Upd.refl g w)
  subst a1
  rw [if_neg (by simp)] at hR
  by_cases p1 : p = 1
  · subst p1
    rw [if_pos rfl] at hR
    have HR := hid hR
    clear hR
    go_enter Try.func41, Try.ntmps41
    go_wp2_with (first | (go_at_call 32; refine (enter_any g ⟨l, r, se, x, 1, d⟩ 2 0 _ H0.out).mono ?_; rintro e' w1 ⟨rfl, he, hu⟩; have HE2 := hid he; have HU2 := hid hu; clear he hu))
    go_ret
    rw [← HR.out]
    exact hand_none HE2.out HU2.out
  have q1 : (p == 1) = false := by simp [p1]
  rw [if_neg p1] at hR
  by_cases p0 : p = 0
  · subst p0
    rw [if_pos rfl] at hR
    have HR := hid hR
    clear hR
    go_enter Try.func41, Try.ntmps41
    go_wp2_with (first | (go_at_call 33; refine (send_any g ⟨l, r, se, x, 0, d⟩ 7 _ H0.out).mono ?_; rintro e' w2 ⟨v, rfl, hm, hb⟩; have HM := hid hm; have HB := hid hb; clear hm hb))
    go_ret
    rw [← HR.out]
    exact hand_send H0.out HM.out HB.out
  have q0 : (p == 0) = false := by simp [p0]
  rw [if_neg p0] at hR
  have HR := hid hR
  clear hR
  go_enter Try.func41, Try.ntmps41
  go_wp2_with fail
  go_ret
  rw [← HR.out]
  exact hand_none H0.out (Upd.refl g w)
set_option maxHeartbeats 4000000 in
set_option maxRecDepth 100000 in
theorem reset_any (g : Nat) (s : Ses) (x : Int) (w : World) (h : EndAt w g s) : Calls Try.prog 42 #[.pointer (some ⟨g, 0, none⟩), .int .i64 x] w (HandQ g (resetR s x) w) := by
  have H0 := hid h
  obtain ⟨x0, x1, x2, x3, x4, x5⟩ := load6 h
  have f := box_fr h
  have hx3 : (w.setCell ⟨g, 3, none⟩ (.int .i64 x)).heap[g]? = some (.cells (cS { s with n := x }) 71) := end_set3 h x
  have HE1 := hid (end_set3 h x)
  have HU1 := hid ((Upd.refl g w).set 3 (.int .i64 x))
  obtain ⟨R, hR⟩ : ∃ R, resetR s x = R := ⟨_, rfl⟩
  rw [hR]
  unfold resetR at hR
  clear h hx3
  obtain ⟨l, r, se, n, p, d⟩ := s
  simp only at x0 x1 x2 x3 x4 x5 hR
  by_cases a1 : n ≤ x
  · have b1 : decide (n ≤ x) = true := decide_eq_true a1
    rw [if_pos a1] at hR
    have HR := hid hR
    clear hR
    go_enter Try.func42, Try.ntmps42
    go_wp2_with (first | (go_at_call 37; refine (close_any g ⟨l, r, se, x, p, d⟩ _ HE1.out).mono ?_; rintro e' w1 ⟨rfl, he, hu⟩; have HE2 := hid he; have HU2 := hid hu; clear he hu))
    go_ret
    rw [← HR.out]
    exact hand_none HE2.out (HU1.out.trans HU2.out)
  have b1 : decide (n ≤ x) = false := decide_eq_false a1
  rw [if_neg a1] at hR
  have HR := hid hR
  clear hR
  go_enter Try.func42, Try.ntmps42
  go_wp2_with fail
  go_ret
  rw [← HR.out]
  exact hand_none H0.out (Upd.refl g w)
end Go.Proofs.Ytkdladacmjkdoaa
