/- The law RecordDecodes. -/
import Derived.Test.YtcmmkeadbedooaaRb
import Derived.Test.YtcmmkeadbedooaaV
namespace Go.Proofs.Ytcmmkeadbedooaa
open Go.RowKit Go.Lib

/-- What Decode answers, in one form: a record, the number of its sectors, an error. -/
theorem dec_form {w w' : World} {l : List Sect} {e : Ending} (h : DecQ w l e w') : ∃ (k q n er : Int) (A : Option Addr) (c : Nat) (p : List Nat), e = .returned (.tuple #[.agg #[.int .i64 k, .int .i64 q, .slice A p.length c], .int .i64 n, .int .i64 er]) ∧ Byt w' (.slice A p.length c) p ∧ Below w.heap.size w w' ∧
    ((∃ (r : Rc) (m : Nat), dR l = .ok (r, m) ∧ k = r.1 ∧ q = r.2.1 ∧ p = r.2.2 ∧ n = m ∧ er = 0) ∨ (dR l = .error er ∧ k = 0 ∧ q = 0 ∧ n = 0 ∧ p = [])) := by
  obtain ⟨hb, ⟨r, m, pv, h1, rfl, ho, h8⟩ | ⟨er, h1, rfl⟩⟩ := h
  · obtain ⟨A, c, rfl⟩ := own_form ho
    exact ⟨r.1, r.2.1, m, 0, A, c, r.2.2, rfl, byt_of_own ho h8, hb, .inl ⟨r, m, h1, rfl, rfl, rfl, rfl, rfl⟩⟩
  · exact ⟨0, 0, 0, er, none, 0, [], rfl, ⟨fun x hx => (by cases hx), none, 0, rfl, Nat.le_refl _, by unfold maxLen; omega, 0, 0, fun h => absurd h (by simp), fun i x h => by simp at h⟩, hb, .inr ⟨h1, rfl, rfl, rfl, rfl⟩⟩
theorem dec_same {l : List Sect} {k q n er k' q' n' er' : Int} {p p' : List Nat}
    (h : (∃ (r : Rc) (m : Nat), dR l = .ok (r, m) ∧ k = r.1 ∧ q = r.2.1 ∧ p = r.2.2 ∧ n = m ∧ er = 0) ∨ (dR l = .error er ∧ k = 0 ∧ q = 0 ∧ n = 0 ∧ p = []))
    (h' : (∃ (r : Rc) (m : Nat), dR l = .ok (r, m) ∧ k' = r.1 ∧ q' = r.2.1 ∧ p' = r.2.2 ∧ n' = m ∧ er' = 0) ∨ (dR l = .error er' ∧ k' = 0 ∧ q' = 0 ∧ n' = 0 ∧ p' = [])) : k = k' ∧ q = q' ∧ p = p' ∧ n = n' ∧ er = er' := by
  rcases h with ⟨r, m, h1, rfl, rfl, rfl, rfl, rfl⟩ | ⟨h1, rfl, rfl, rfl, rfl⟩
  · rcases h' with ⟨r', m', h2, rfl, rfl, rfl, rfl, rfl⟩ | ⟨h2, _⟩
    · rw [h1] at h2; cases h2; exact ⟨rfl, rfl, rfl, rfl, rfl⟩
    · rw [h1] at h2; cases h2
  · rcases h' with ⟨r', m', h2, _⟩ | ⟨h2, rfl, rfl, rfl, rfl⟩
    · rw [h1] at h2; cases h2
    · rw [h1] at h2; cases h2; exact ⟨rfl, rfl, rfl, rfl, rfl⟩

set_option maxHeartbeats 4000000 in
set_option maxRecDepth 100000 in
theorem decodes_walk (l : List Sect) (v : Value) (w : World) (hv : Sec w v l) :
    Calls Try.prog 5 #[v] w fun e w' => e = .returned (.bool true) ∧ Below w.heap.size w w' := by
  obtain ⟨A, c, rfl⟩ := sec_form hv
  obtain ⟨L, hL⟩ : ∃ L, l.length = L := ⟨_, rfl⟩
  have HV := hid hv
  have HLL := hid hL
  rw [hL] at HV ⊢
  clear hv hL
  by_cases h1 : 1100 < L
  · have d1 : decide ((1100 : Int) < (L : Int)) = true := decide_eq_true (by omega)
    go_enter Try.func5, Try.ntmps5
    go_wp2_with fail
    refine (awake_any w).mono ?_
    rintro e w2 ⟨rfl, hb2⟩
    go_wp2
    go_ret
    exact ⟨rfl, hb2⟩
  have d1 : decide ((1100 : Int) < (L : Int)) = false := decide_eq_false (by omega)
  have HD1 := hid (decode_any l _ w HV.out (by rw [HLL.out]; omega))
  go_enter Try.func5, Try.ntmps5
  go_wp2_with fail
  refine HD1.out.mono ?_
  rintro e w2 h2
  obtain ⟨k, q, n, er, pA, pc, p, rfl, hp, hb2, hc⟩ := dec_form h2
  obtain ⟨W3, hW3⟩ : ∃ W3, w2.alloc (.cells #[.int .i64 k, .int .i64 q, .slice pA p.length pc] 27) = W3 := ⟨_, rfl⟩
  have hb3 : Below w2.heap.size w2 W3 := by rw [← hW3]; exact al1 _ _
  have hx3 : W3.heap[w2.heap.size]? = some (.cells #[.int .i64 k, .int .i64 q, .slice pA p.length pc] 27) := by rw [← hW3]; exact heap_alloc_new _ _
  have HB3 := hid (hb2.trans (hb3.mono hb2.size))
  have HX3 := hid hx3
  have HP3 := hid (hp.below hb3)
  have HC := hid hc
  have HD2 := hid (rdecode_any l _ W3 (HV.out.below HB3.out) (by rw [HLL.out]; omega))
  subst hW3
  obtain ⟨g, hg⟩ : ∃ g, w2.heap.size = g := ⟨_, rfl⟩
  have HG := hid hg
  clear h2 hp hb2 hc hb3 hx3 HD1 hg
  go_wp2_with fail
  refine HD2.out.mono ?_
  rintro e w4 h4
  obtain ⟨k', q', n', er', pA', pc', p', rfl, hp', hb4, hc'⟩ := dec_form h4
  obtain ⟨rfl, rfl, rfl, rfl, rfl⟩ := dec_same HC.out hc'
  obtain ⟨W5, hW5⟩ : ∃ W5, w4.alloc (.cells #[.int .i64 k, .int .i64 q, .slice pA' p.length pc'] 27) = W5 := ⟨_, rfl⟩
  have hb5 : Below w4.heap.size w4 W5 := by rw [← hW5]; exact al1 _ _
  have hx5 : W5.heap[w4.heap.size]? = some (.cells #[.int .i64 k, .int .i64 q, .slice pA' p.length pc'] 27) := by rw [← hW5]; exact heap_alloc_new _ _
  have hb35 := hb4.trans (hb5.mono hb4.size)
  have hxa := (hb35.block w2.heap.size (box_lt HX3.out)).trans HX3.out
  rw [HG.out] at hxa ⊢
  have HXA := hid hxa
  have HXB := hid hx5
  have HPA := hid (HP3.out.below hb35)
  have HPB := hid (hp'.below hb5)
  have HB5 := hid (HB3.out.trans (hb35.mono HB3.out.size))
  have HW5 := hid hW5
  clear h4 hp' hb4 hc' hb5 hx5 hb35 hxa hW5 HC HD2 HX3 HP3 HB3
  go_wp2_with fail
  rw [HW5.out]
  refine (awake_any W5).mono ?_
  rintro e w6 ⟨rfl, hb6⟩
  obtain ⟨h, hh⟩ : ∃ h, w4.heap.size = h := ⟨_, rfl⟩
  have hxa := (hb6.block g (box_lt HXA.out)).trans HXA.out
  have hxb := (hb6.block w4.heap.size (box_lt HXB.out)).trans HXB.out
  rw [hh] at hxb ⊢
  have x0 : w6.cell? ⟨g, 0, none⟩ = some (.int .i64 k) := cell_of_row _ _ 0 _ _ _ hxa
  have x1 : w6.cell? ⟨g, 1, none⟩ = some (.int .i64 q) := cell_of_row _ _ 1 _ _ _ hxa
  have x2 : w6.cell? ⟨g, 2, none⟩ = some (.slice pA p.length pc) := cell_of_row _ _ 2 _ _ _ hxa
  have y0 : w6.cell? ⟨h, 0, none⟩ = some (.int .i64 k) := cell_of_row _ _ 0 _ _ _ hxb
  have y1 : w6.cell? ⟨h, 1, none⟩ = some (.int .i64 q) := cell_of_row _ _ 1 _ _ _ hxb
  have y2 : w6.cell? ⟨h, 2, none⟩ = some (.slice pA' p.length pc') := cell_of_row _ _ 2 _ _ _ hxb
  have hsame := same_any k q k q p p _ _ w6 (HPA.out.below hb6) (HPB.out.below hb6)
  rw [decide_eq_true (show k = k ∧ q = q ∧ p = p from ⟨rfl, rfl, rfl⟩)] at hsame
  have HSAME := hid hsame
  have HB6 := hid (HB5.out.trans (hb6.mono HB5.out.size))
  have dn : (n == n) = true := by simp
  have de : (er == er) = true := by simp
  clear hb6 hxa hxb hsame hh HXA HXB HPA HPB HW5
  go_wp2_with fail
  refine HSAME.out.mono ?_
  rintro e w7 ⟨rfl, hb7⟩
  have HB7 := hid (HB6.out.trans (hb7.mono HB6.out.size))
  clear hb7
  go_wp2
  go_ret
  exact ⟨rfl, HB7.out⟩
end Go.Proofs.Ytcmmkeadbedooaa
