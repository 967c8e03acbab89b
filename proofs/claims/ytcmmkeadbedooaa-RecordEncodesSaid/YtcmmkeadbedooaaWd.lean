/- The law RecordEncodes. -/
import Derived.Test.YtcmmkeadbedooaaRa
import Derived.Test.YtcmmkeadbedooaaV
namespace Go.Proofs.Ytcmmkeadbedooaa
open Go.RowKit Go.Lib

set_option maxHeartbeats 4000000 in
set_option maxRecDepth 100000 in
theorem encodes_walk (a : Rv) (w : World) (ha : RvOk w a) :
    Calls Try.prog 4 #[.agg #[.int .i64 a.k, .int .i64 a.q, a.d]] w fun e w' => e = .returned (.bool true) ∧ Below w.heap.size w w' := by
  obtain ⟨k, q, d, p⟩ := a
  obtain ⟨hp, hpn, hrk, hrq⟩ := ha
  dsimp only at hp hpn hrk hrq
  obtain ⟨A, c, rfl⟩ := byt_form hp
  have hk1 : k < 9223372036854775808 := by have := hrk.2; omega
  have hq1 : q < 9223372036854775808 := by have := hrq.2; omega
  obtain ⟨W1, hW1⟩ : ∃ W1, w.alloc (.cells #[.int .i64 k, .int .i64 q, .slice A p.length c] 27) = W1 := ⟨_, rfl⟩
  have hb1 : Below w.heap.size w W1 := by rw [← hW1]; exact al1 _ _
  have hx1 : W1.heap[w.heap.size]? = some (.cells #[.int .i64 k, .int .i64 q, .slice A p.length c] 27) := by rw [← hW1]; exact heap_alloc_new _ _
  have c0 : W1.cell? ⟨w.heap.size, 0, none⟩ = some (.int .i64 k) := cell_of_row _ _ 0 _ _ _ hx1
  have c1 : W1.cell? ⟨w.heap.size, 1, none⟩ = some (.int .i64 q) := cell_of_row _ _ 1 _ _ _ hx1
  have c2 : W1.cell? ⟨w.heap.size, 2, none⟩ = some (.slice A p.length c) := cell_of_row _ _ 2 _ _ _ hx1
  have HP := hid hp
  have HPN := hid hpn
  have HB1 := hid hb1
  have HX1 := hid hx1
  have HEN := hid (encode_any k q p _ W1 (hp.below hb1) hk1 hq1)
  obtain ⟨N, hN⟩ : ∃ N, p.length = N := ⟨_, rfl⟩
  have HN := hid hN
  have hNl := byt_len hp
  rw [hN] at HP HPN HEN HX1 c2 hW1 hNl ⊢
  have HW1 := hid hW1
  have HK1 := hid hk1
  have HQ1 := hid hq1
  clear hp hpn hb1 hx1 hN hW1 hrk hrq hk1 hq1
  by_cases h1 : 5000 < N
  · have d1 : decide ((5000 : Int) < (N : Int)) = true := decide_eq_true (by omega)
    go_enter Try.func4, Try.ntmps4
    go_wp2_with fail
    rw [HW1.out]
    refine (awake_any W1).mono ?_
    rintro e w2 ⟨rfl, hb2⟩
    have HB2 := hid (HB1.out.trans (hb2.mono HB1.out.size))
    clear hb2
    go_wp2
    go_ret
    exact ⟨rfl, HB2.out⟩
  have d1 : decide ((5000 : Int) < (N : Int)) = false := decide_eq_false (by omega)
  go_enter Try.func4, Try.ntmps4
  go_wp2_with fail
  rw [HW1.out]
  refine HEN.out.mono ?_
  rintro e w2 h2
  obtain ⟨hb2, hr2⟩ := h2
  have hx2 := (hb2.block w.heap.size (box_lt HX1.out)).trans HX1.out
  have hbw2 : Below w.heap.size w w2 := HB1.out.trans (hb2.mono HB1.out.size)
  have HEN2 := hid (rencode_any k q p (.slice A N c) w2 (HP.out.below hbw2) HPN.out HK1.out HQ1.out)
  have x0 : w2.cell? ⟨w.heap.size, 0, none⟩ = some (.int .i64 k) := cell_of_row _ _ 0 _ _ _ hx2
  have x1 : w2.cell? ⟨w.heap.size, 1, none⟩ = some (.int .i64 q) := cell_of_row _ _ 1 _ _ _ hx2
  have x2 : w2.cell? ⟨w.heap.size, 2, none⟩ = some (.slice A N c) := cell_of_row _ _ 2 _ _ _ hx2
  have HB2 := hid hbw2
  have hres : ∃ (xs : List Sect) (v2 : Value) (er : Int), e = .returned (.tuple #[v2, .int .i64 er]) ∧ Sec w2 v2 xs ∧ ((encS k q p = .ok xs ∧ er = 0) ∨ (encS k q p = .error er ∧ xs = [])) := by
    rcases hr2 with ⟨l, v, h1, rfl, hs, ho⟩ | ⟨er, h1, rfl⟩
    · exact ⟨l, v, 0, rfl, sec_of_own ho hs, .inl ⟨h1, rfl⟩⟩
    · exact ⟨[], .slice none 0 0, er, rfl, ⟨fun s h => (by cases h), arr_nil _ _⟩, .inr ⟨h1, rfl⟩⟩
  obtain ⟨xs, v2, er, rfl, hs2, hc⟩ := hres
  have HS2 := hid hs2
  have HC := hid hc
  clear hr2 hb2 hx2 hbw2 hs2 hc HEN c0 c1 c2
  go_wp2_with fail
  refine HEN2.out.mono ?_
  rintro e w3 ⟨hb3, hr3⟩
  have hres3 : ∃ (v3 : Value), e = .returned (.tuple #[v3, .int .i64 er]) ∧ Sec w3 v3 xs := by
    rcases hr3 with ⟨l, v, h1, rfl, hs, ho⟩ | ⟨er', h1, rfl⟩
    · rcases HC.out with ⟨h, rfl⟩ | ⟨h, _⟩
      · rw [h] at h1; cases h1
        exact ⟨v, rfl, sec_of_own ho hs⟩
      · rw [h] at h1; cases h1
    · rcases HC.out with ⟨h, _⟩ | ⟨h, rfl⟩
      · rw [h] at h1; cases h1
      · rw [h] at h1; cases h1
        exact ⟨.slice none 0 0, rfl, ⟨fun s h => (by cases h), arr_nil _ _⟩⟩
  obtain ⟨v3, rfl, hs3⟩ := hres3
  have HS2' := hid (HS2.out.below hb3)
  have HS3 := hid hs3
  have HB3 := hid (HB2.out.trans (hb3.mono HB2.out.size))
  clear hb3 hr3 hs3 HEN2 HS2 x0 x1 x2
  go_wp2_with fail
  refine (awake_any w3).mono ?_
  rintro e w4 ⟨rfl, hb4⟩
  have HB4 := hid (HB3.out.trans (hb4.mono HB3.out.size))
  have hsame := eqSame_any xs xs v2 v3 w4 (HS2'.out.below hb4).2 (HS3.out.below hb4).2 HS3.out.1 HS3.out.1
  rw [decide_eq_true (show xs = xs from rfl)] at hsame
  have HSAME := hid hsame
  clear hb4 hsame HS2' HS3
  have dee : (er == er) = true := by simp
  go_wp2_with fail
  refine HSAME.out.mono ?_
  rintro e w5 ⟨rfl, m, rfl⟩
  have HB5 := hid (below_drewN HB4.out m)
  clear HSAME
  go_wp2
  go_ret
  exact ⟨rfl, HB5.out⟩
end Go.Proofs.Ytcmmkeadbedooaa
