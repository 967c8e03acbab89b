/- The reference's config, copied, New; few. -/
import Derived.Test.YtacpejoablcffaaW
namespace Go.Proofs.Ytacpejoablcffaa
open Go.RowKit Go.Lib

/-- The error of a configuration. -/
def cfgE (mn mx rt : Int) : Int := if cfgB mn mx rt = false then 2 else 0
set_option maxHeartbeats 4000000 in
set_option maxRecDepth 100000 in
theorem refConfig_any (mn mx rt : Int) (w : World) : Calls Try.prog 33 #[.agg #[.int .i64 mn, .int .i64 mx, .int .i64 rt]] w fun e w' => e = .returned (.int .i64 (cfgE mn mx rt)) ∧ Below w.heap.size w w' := by
  obtain ⟨r, hr⟩ : ∃ r, cfgE mn mx rt = r := ⟨_, rfl⟩
  rw [hr]
  unfold cfgE at hr
  obtain ⟨g, hg⟩ : ∃ g, w.heap.size = g := ⟨_, rfl⟩
  obtain ⟨W1, hW1⟩ : ∃ X, w.alloc (.cells #[.int .i64 mn, .int .i64 mx, .int .i64 rt] 23) = X := ⟨_, rfl⟩
  have hx1 : W1.heap[g]? = some (.cells #[.int .i64 mn, .int .i64 mx, .int .i64 rt] 23) := by rw [← hW1, ← hg]; exact heap_alloc_new w _
  have HB1 : Hid (Below w.heap.size w W1) := hid (by rw [← hW1]; exact al1 _ _)
  have x0 := cell_of_row _ _ 0 _ _ _ hx1
  have x1 := cell_of_row _ _ 1 _ _ _ hx1
  have x2 := cell_of_row _ _ 2 _ _ _ hx1
  have HW1 := hid hW1
  have HG := hid hg
  clear hx1 hW1 hg
  by_cases h0 : mn < 0
  · have dh0 : decide (mn < 0) = true := decide_eq_true h0
    obtain rfl : 2 = r := by rw [← hr, if_pos (by unfold cfgB; exact decide_eq_false (by omega))]
    clear hr
    go_enter Try.func33, Try.ntmps33
    go_upto_region 1 with fail
    rw [HW1.out, HG.out]
    go_wp2_with fail
    go_ret
    exact ⟨rfl, HB1.out⟩
  have dh0 : decide (mn < 0) = false := decide_eq_false h0
  by_cases h1 : mx < mn
  · have dh1 : decide (mx < mn) = true := decide_eq_true h1
    obtain rfl : 2 = r := by rw [← hr, if_pos (by unfold cfgB; exact decide_eq_false (by omega))]
    clear hr
    go_enter Try.func33, Try.ntmps33
    go_upto_region 1 with fail
    rw [HW1.out, HG.out]
    go_wp2_with fail
    go_ret
    exact ⟨rfl, HB1.out⟩
  have dh1 : decide (mx < mn) = false := decide_eq_false h1
  by_cases h2 : 1073741824 < mx
  · have dh2 : decide ((1073741824 : Int) < mx) = true := decide_eq_true h2
    obtain rfl : 2 = r := by rw [← hr, if_pos (by unfold cfgB; exact decide_eq_false (by omega))]
    clear hr
    go_enter Try.func33, Try.ntmps33
    go_upto_region 1 with fail
    rw [HW1.out, HG.out]
    go_wp2_with fail
    go_ret
    exact ⟨rfl, HB1.out⟩
  have dh2 : decide ((1073741824 : Int) < mx) = false := decide_eq_false h2
  by_cases h3 : rt < 0
  · have dh3 : decide (rt < 0) = true := decide_eq_true h3
    obtain rfl : 2 = r := by rw [← hr, if_pos (by unfold cfgB; exact decide_eq_false (by omega))]
    clear hr
    go_enter Try.func33, Try.ntmps33
    go_upto_region 1 with fail
    rw [HW1.out, HG.out]
    go_wp2_with fail
    go_ret
    exact ⟨rfl, HB1.out⟩
  have dh3 : decide (rt < 0) = false := decide_eq_false h3
  by_cases h4 : 65536 < rt
  · have dh4 : decide ((65536 : Int) < rt) = true := decide_eq_true h4
    obtain rfl : 2 = r := by rw [← hr, if_pos (by unfold cfgB; exact decide_eq_false (by omega))]
    clear hr
    go_enter Try.func33, Try.ntmps33
    go_upto_region 1 with fail
    rw [HW1.out, HG.out]
    go_wp2_with fail
    go_ret
    exact ⟨rfl, HB1.out⟩
  have dh4 : decide ((65536 : Int) < rt) = false := decide_eq_false h4
  obtain rfl : 0 = r := by rw [← hr, if_neg (by unfold cfgB; rw [decide_eq_true (by omega)]; simp)]
  clear hr
  go_enter Try.func33, Try.ntmps33
  go_upto_region 1 with fail
  rw [HW1.out, HG.out]
  go_wp2_with fail
  go_ret
  exact ⟨rfl, HB1.out⟩
set_option maxHeartbeats 4000000 in
set_option maxRecDepth 100000 in
theorem copied_any (p : List Nat) (v : Value) (w : World) (hv : Byt w v p) (hn : NilOk v) (hl : p.length ≤ 1000000) : Calls Try.prog 48 #[v] w (MadeO w p) := by
  have HV := hid hv
  have HN := hid hn
  clear hv hn
  go_enter Try.func48, Try.ntmps48
  go_wp2_with (at_builtin; refine append_byt rfl (.tmp 4) (.tmp 5) rfl w.heap.size (.slice none 0 0) 0 [] rfl (World.ownsRow_nil _ _ _ _) p _ rfl HV.out HN.out (by omega) (Nat.le_refl _) ?_; intro v2 w2 ho2 hg2; have HB2 := hid (below_own (Below.refl _ w) (World.ownsRow_nil w w.heap.size 5 1) hg2 (Nat.le_refl _) (Nat.le_refl _)); have HO2 := hid ho2; clear ho2 hg2)
  go_ret
  exact ⟨_, rfl, by have h := HO2.out; simpa using h, HB2.out⟩
def zL : Value := .agg #[.int .i64 0, .int .i64 0, .int .i64 0, .bool false, .int .i64 0, .int .i64 0, .slice none 0 0]
/-- The link and the error of New. -/
def newS (mn mx rt : Int) : Lk × Int := if cfgB mn mx rt = false then (⟨0, 0, 0, false, 0, 0⟩, 2) else (⟨mn, mx, rt, false, 0, 0⟩, 0)
set_option maxHeartbeats 4000000 in
set_option maxRecDepth 100000 in
theorem refNew_any (mn mx rt : Int) (w : World) : Calls Try.prog 14 #[.agg #[.int .i64 mn, .int .i64 mx, .int .i64 rt]] w fun e w' => e = .returned (.tuple #[vLk (newS mn mx rt).1 (.slice none 0 0), .int .i64 (newS mn mx rt).2]) ∧ Below w.heap.size w w' := by
  obtain ⟨g, hg⟩ : ∃ g, w.heap.size = g := ⟨_, rfl⟩
  obtain ⟨W1, hW1⟩ : ∃ X, (w.alloc (.cells #[.int .i64 mn, .int .i64 mx, .int .i64 rt] 23)).alloc (.cells #[.int .i64 0, .int .i64 0, .int .i64 0, .bool false, .int .i64 0, .int .i64 0, .slice none 0 0] 26) = X := ⟨_, rfl⟩
  have hx1 : W1.heap[g]? = some (.cells #[.int .i64 mn, .int .i64 mx, .int .i64 rt] 23) := by rw [← hW1, ← hg]; exact (Below.heap_alloc _ _ _ (by simp)).trans (heap_alloc_new w _)
  have hy1 : W1.heap[g + 1]? = some (.cells #[.int .i64 0, .int .i64 0, .int .i64 0, .bool false, .int .i64 0, .int .i64 0, .slice none 0 0] 26) := by rw [← hW1, ← hg]; simpa using heap_alloc_new (w.alloc (.cells #[.int .i64 mn, .int .i64 mx, .int .i64 rt] 23)) (.cells #[.int .i64 0, .int .i64 0, .int .i64 0, .bool false, .int .i64 0, .int .i64 0, .slice none 0 0] 26)
  have HB1 : Hid (Below w.heap.size w W1) := hid (by rw [← hW1]; exact ((Below.refl _ w).alloc (Nat.le_refl _) _).alloc (by simp) _)
  have HX1 := hid hx1
  have HY1 := hid hy1
  have HCF := hid (refConfig_any mn mx rt W1)
  have x0 := cell_of_row _ _ 0 _ _ _ hx1
  have x1 := cell_of_row _ _ 1 _ _ _ hx1
  have x2 := cell_of_row _ _ 2 _ _ _ hx1
  have HW1 := hid hW1
  have HG := hid hg
  clear hx1 hy1 hW1 hg
  by_cases hcb : cfgB mn mx rt = false
  · have e1 : newS mn mx rt = (⟨0, 0, 0, false, 0, 0⟩, 2) := by unfold newS; rw [if_pos hcb]
    unfold cfgE at HCF
    rw [if_pos hcb] at HCF
    rw [e1]
    clear e1 hcb
    go_enter Try.func14, Try.ntmps14
    go_upto_region 1 with fail
    rw [HW1.out, HG.out]
    go_wp2_with fail
    refine HCF.out.mono ?_
    rintro e w2 ⟨rfl, hb2⟩
    have HB2 := hid (HB1.out.trans (hb2.mono HB1.out.size))
    have HX2 := hid ((hb2.block _ (box_lt HX1.out)).trans HX1.out)
    have HY2 := hid ((hb2.block _ (box_lt HY1.out)).trans HY1.out)
    clear hb2 HCF x0 x1 x2
    have x0 := cell_of_row _ _ 0 _ _ _ HX2.out
    have x1 := cell_of_row _ _ 1 _ _ _ HX2.out
    have x2 := cell_of_row _ _ 2 _ _ _ HX2.out
    have y0 := cell_of_row _ _ 0 _ _ _ HY2.out
    have y1 := cell_of_row _ _ 1 _ _ _ HY2.out
    have y2 := cell_of_row _ _ 2 _ _ _ HY2.out
    have y3 := cell_of_row _ _ 3 _ _ _ HY2.out
    have y4 := cell_of_row _ _ 4 _ _ _ HY2.out
    have y5 := cell_of_row _ _ 5 _ _ _ HY2.out
    have y6 := cell_of_row _ _ 6 _ _ _ HY2.out
    have fy0 := box_fr HY2.out 0
    have fy1 := box_fr HY2.out 1
    have fy2 := box_fr HY2.out 2
    have fy3 := box_fr HY2.out 3
    have fy4 := box_fr HY2.out 4
    have fy5 := box_fr HY2.out 5
    have fy6 := box_fr HY2.out 6
    have hge : w.heap.size ≤ g := by rw [HG.out]; exact Nat.le_refl _
    go_wp2_with fail
    refine bodyPost_ret (results_v1 rfl _ _ (g + 1) _ rfl (lv26 (set7h _ _ _ _ _ _ _ HY2.out)) _ rfl) rfl ?_
    exact ⟨rfl, set7b _ _ _ _ _ _ _ HB2.out (by omega)⟩
  · have e1 : newS mn mx rt = (⟨mn, mx, rt, false, 0, 0⟩, 0) := by unfold newS; rw [if_neg hcb]
    unfold cfgE at HCF
    rw [if_neg hcb] at HCF
    rw [e1]
    clear e1 hcb
    go_enter Try.func14, Try.ntmps14
    go_upto_region 1 with fail
    rw [HW1.out, HG.out]
    go_wp2_with fail
    refine HCF.out.mono ?_
    rintro e w2 ⟨rfl, hb2⟩
    have HB2 := hid (HB1.out.trans (hb2.mono HB1.out.size))
    have HX2 := hid ((hb2.block _ (box_lt HX1.out)).trans HX1.out)
    have HY2 := hid ((hb2.block _ (box_lt HY1.out)).trans HY1.out)
    clear hb2 HCF x0 x1 x2
    have x0 := cell_of_row _ _ 0 _ _ _ HX2.out
    have x1 := cell_of_row _ _ 1 _ _ _ HX2.out
    have x2 := cell_of_row _ _ 2 _ _ _ HX2.out
    have y0 := cell_of_row _ _ 0 _ _ _ HY2.out
    have y1 := cell_of_row _ _ 1 _ _ _ HY2.out
    have y2 := cell_of_row _ _ 2 _ _ _ HY2.out
    have y3 := cell_of_row _ _ 3 _ _ _ HY2.out
    have y4 := cell_of_row _ _ 4 _ _ _ HY2.out
    have y5 := cell_of_row _ _ 5 _ _ _ HY2.out
    have y6 := cell_of_row _ _ 6 _ _ _ HY2.out
    have fy0 := box_fr HY2.out 0
    have fy1 := box_fr HY2.out 1
    have fy2 := box_fr HY2.out 2
    have fy3 := box_fr HY2.out 3
    have fy4 := box_fr HY2.out 4
    have fy5 := box_fr HY2.out 5
    have fy6 := box_fr HY2.out 6
    have hge : w.heap.size ≤ g := by rw [HG.out]; exact Nat.le_refl _
    go_wp2_with fail
    refine bodyPost_ret (results_v1 rfl _ _ (g + 1) _ rfl (lv26 (set7h _ _ _ _ _ _ _ HY2.out)) _ rfl) rfl ?_
    exact ⟨rfl, set7b _ _ _ _ _ _ _ HB2.out (by omega)⟩
end Go.Proofs.Ytacpejoablcffaa
