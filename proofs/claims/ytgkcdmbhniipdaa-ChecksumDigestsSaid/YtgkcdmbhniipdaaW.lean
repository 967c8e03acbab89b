/- The law ChecksumDigests is walked. -/
import Derived.Test.YtgkcdmbhniipdaaV
import Derived.Deep.RegionHeld3
namespace Go.Proofs.Ytgkcdmbhniipdaa
open Go.RowKit Go.Lib

/-- A block of four cells. -/
def Box4 (W : World) (g : Nat) (v0 v1 v2 v3 : Value) : Prop := W.heap[g]? = some (.cells #[v0, v1, v2, v3] 34 (0, 0)) ∧ g < W.heap.size
theorem Box4.below {W W' : World} {g : Nat} {v0 v1 v2 v3 : Value} (h : Box4 W g v0 v1 v2 v3) (hb : Below W.heap.size W W') : Box4 W' g v0 v1 v2 v3 :=
  ⟨(hb.block g h.2).trans h.1, Nat.lt_of_lt_of_le h.2 hb.size⟩
theorem Box4.facts {W : World} {g : Nat} {v0 v1 v2 v3 : Value} (h : Box4 W g v0 v1 v2 v3) : W.cell? ⟨g, 0, none⟩ = some v0 ∧ W.cell? ⟨g, 1, none⟩ = some v1 ∧ W.cell? ⟨g, 2, none⟩ = some v2 ∧ W.cell? ⟨g, 3, none⟩ = some v3 :=
  ⟨cell_of_row _ _ 0 _ _ _ h.1, cell_of_row _ _ 1 _ _ _ h.1, cell_of_row _ _ 2 _ _ _ h.1, cell_of_row _ _ 3 _ _ _ h.1⟩

set_option maxHeartbeats 4000000 in
theorem digests_walk (l : List Nat) (ll : List (List Nat)) (vb vs : Value) (a b : Nat) (w : World) (hb : Byt w vb l) (hs : Sec w vs ll) (ha : a < 18446744073709551616) (hbb : b < 18446744073709551616) :
    Calls Try.prog 6 #[.agg #[vb, vs, .int .u64 (a : Int), .int .u64 (b : Int)]] w fun e w' => e = .returned (.bool true) ∧ Below w.heap.size w w' := by
  have hl1 := byt_len hb
  have hl2 := sec_len hs
  have HV := hid hb
  have HS := hid hs
  obtain ⟨A, ca, rfl⟩ := byt_form hb
  obtain ⟨C, cc, rfl⟩ := sec_form hs
  clear hb hs
  obtain ⟨w1, hw1⟩ : ∃ w1, w.alloc (.cells #[.slice A l.length ca, .slice C ll.length cc, .int .u64 (a : Int), .int .u64 (b : Int)] 34) = w1 := ⟨_, rfl⟩
  have HX1 : Hid (Box4 w1 w.heap.size (.slice A l.length ca) (.slice C ll.length cc) (.int .u64 (a : Int)) (.int .u64 (b : Int))) := by rw [← hw1]; exact hid ⟨heap_alloc_new _ _, by simp⟩
  have HB1 : Hid (Below w.heap.size w w1) := by rw [← hw1]; exact hid (al1 _ _)
  obtain ⟨x0, x1, x2, x3⟩ := HX1.out.facts
  by_cases h1 : l.length ≤ 5000
  · by_cases h2 : ll.length ≤ 600
    · have HD1 := hid (fun (W : World) (h : Below w.heap.size w W) => digestB_any l _ W (HV.out.below h))
      have HD2 := hid (fun (W : World) (h : Below w.heap.size w W) => rdigest_any l _ W (HV.out.below h))
      have HD3 := hid (fun (W : World) (h : Below w.heap.size w W) => digestS_any ll _ W (HS.out.below h))
      have HD4 := hid (fun (W : World) (h : Below w.heap.size w W) => rdigestS_any ll _ W (HS.out.below h) (by omega))
      have HD5 := hid (fun (W : World) => pair_any a b W ha hbb)
      have HD6 := hid (fun (W : World) => rpair_any a b W)
      obtain ⟨d1, e1⟩ : ∃ d, dig l = d := ⟨_, rfl⟩
      obtain ⟨d2, e2⟩ : ∃ d, dig ll.flatten = d := ⟨_, rfl⟩
      obtain ⟨d3, e3⟩ : ∃ d, pairS a b = d := ⟨_, rfl⟩
      rw [e1] at HD1 HD2
      rw [e2] at HD3 HD4
      rw [e3] at HD5 HD6
      have q1 : ((d1 : Int) == (d1 : Int)) = true := by simp
      have q2 : ((d2 : Int) == (d2 : Int)) = true := by simp
      have q3 : ((d3 : Int) == (d3 : Int)) = true := by simp
      clear e1 e2 e3
      go_enter Try.func6, Try.ntmps6
      go_wp2_with fail
      go_region_held3 (fun W => W.cell? ⟨w.heap.size, 0, none⟩ = some (.slice A l.length ca) ∧ W.cell? ⟨w.heap.size, 1, none⟩ = some (.slice C ll.length cc) ∧ W.cell? ⟨w.heap.size, 2, none⟩ = some (.int .u64 (a : Int)) ∧ W.cell? ⟨w.heap.size, 3, none⟩ = some (.int .u64 (b : Int)))
        (go_keep)
        (first
          | (go_at_call 12; refine (awake_any _).mono ?_; rintro e w3 ⟨rfl, hb3⟩; have hb13 : Below w1.heap.size w1 w3 := ⟨hb3.os, hb3.tape, hb3.output, hb3.size, hb3.block⟩; have HX3 := hid (HX1.out.below hb13); obtain ⟨x0, x1, x2, x3⟩ := HX3.out.facts; have HB3 := hid (below_both HB1.out hb13); clear hb3 hb13)
          | (go_at_call 19; refine (HD1.out _ HB3.out).mono ?_; rintro e w4 ⟨rfl, hb4⟩; have HX4 := hid (HX3.out.below hb4); obtain ⟨x0, x1, x2, x3⟩ := HX4.out.facts; have HB4 := hid (below_both HB3.out hb4); clear hb4)
          | (go_at_call 20; refine (HD2.out _ HB4.out).mono ?_; rintro e w5 ⟨rfl, rfl⟩)
          | (go_at_call 21; refine (HD3.out _ HB4.out).mono ?_; rintro e w6 ⟨rfl, hb6⟩; have HX6 := hid (HX4.out.below hb6); obtain ⟨x0, x1, x2, x3⟩ := HX6.out.facts; have HB6 := hid (below_both HB4.out hb6); clear hb6)
          | (go_at_call 22; refine (HD4.out _ HB6.out).mono ?_; rintro e w7 ⟨rfl, hb7⟩; have HX7 := hid (HX6.out.below hb7); obtain ⟨x0, x1, x2, x3⟩ := HX7.out.facts; have HB7 := hid (below_both HB6.out hb7); clear hb7)
          | (go_at_call 23; refine (HD5.out _).mono ?_; rintro e w8 ⟨rfl, hb8⟩; have HX8 := hid (HX7.out.below hb8); obtain ⟨x0, x1, x2, x3⟩ := HX8.out.facts; have HB8 := hid (below_both HB7.out hb8); clear hb8)
          | (go_at_call 24; refine (HD6.out _).mono ?_; rintro e w9 ⟨rfl, hb9⟩; have HX9 := hid (HX8.out.below hb9); obtain ⟨x0, x1, x2, x3⟩ := HX9.out.facts; have HB9 := hid (below_both HB8.out hb9); clear hb9))
      go_wp2
      go_ret
      exact ⟨rfl, HB9.out⟩
    · go_enter Try.func6, Try.ntmps6
      go_wp2_with fail
      refine (awake_any _).mono ?_
      rintro e w2 ⟨rfl, hb⟩
      replace HB1 := hid (below_both HB1.out hb)
      clear hb
      go_wp2
      go_ret
      exact ⟨rfl, HB1.out⟩
  · go_enter Try.func6, Try.ntmps6
    go_wp2_with fail
    refine (awake_any _).mono ?_
    rintro e w2 ⟨rfl, hb⟩
    replace HB1 := hid (below_both HB1.out hb)
    clear hb
    go_wp2
    go_ret
    exact ⟨rfl, HB1.out⟩
end Go.Proofs.Ytgkcdmbhniipdaa
