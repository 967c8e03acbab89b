/- The reference's Copy. -/
import Derived.Test.YtbifhcjkdfocaaaDoorX
import Derived.Deep.RegionHeld3
import Derived.Deep.AppendLies
import Derived.Deep.RegionLawGrows
import Derived.Deep.RegionLaw
namespace Go.Proofs.YtbifhcjkdfocaaaDoor
open Go.RowKit

/-- A copy that lies in a block of its own. -/
def CopyW (w : World) (s : Int) (ws : List Nat) (e : Ending) (w' : World) : Prop :=
  ∃ g cap, e = .returned (.agg #[.int .i64 s, .slice (some ⟨g, 0, none⟩) ws.length cap]) ∧ w.heap.size ≤ g ∧ Wk w' g ws ∧ ws.length ≤ cap ∧ cap ≤ maxLen ∧ Below w.heap.size w w'

theorem info55 : (Tryd.prog.info? 55).map (fun i => (i.zero, i.size, i.bytes)) = some (some (.int .u64 0), 1, 8) := by kernel_rfl
def flat (ws : List Nat) : List Value := ws.map fun (x : Nat) => Value.int .u64 (x : Int)
theorem flat_length (ws : List Nat) : (flat ws).length = ws.length := by simp [flat]
theorem flat_get {ws : List Nat} {i : Nat} {u : Value} (h : (flat ws)[i]? = some u) : ∃ x, ws[i]? = some x ∧ u = .int .u64 (x : Int) := by
  simp only [flat, List.getElem?_map, Option.map_eq_some_iff] at h
  obtain ⟨x, h1, h2⟩ := h
  exact ⟨x, h1, h2.symm⟩
theorem flat_one (ws : List Nat) : ∀ u ∈ flat ws, u.oneCell' = true := by
  intro u hu
  simp only [flat, List.mem_map] at hu
  obtain ⟨x, _, rfl⟩ := hu
  rfl
theorem wk_of_own {w : World} {base g cap : Nat} {ws : List Nat} (h : w.ownsRow base 55 1 (.slice (some ⟨g, 0, none⟩) ws.length cap) ws.length (flat ws)) : Wk w g ws ∧ base ≤ g ∧ ws.length ≤ cap ∧ cap ≤ maxLen := by
  rcases h.2 with ⟨h0, _⟩ | ⟨g', cap', cur, hv, hb, hcur, hcap, hcm, hs, ht⟩
  · cases h0
  · injection hv with e1 e2 e3
    injection e1 with e1
    injection e1 with e1
    subst e1 e3
    refine ⟨⟨cur, hcur, by omega, fun i x hi => ?_⟩, hb, hcap, hcm⟩
    have hl := (List.getElem?_eq_some_iff.1 hi).1
    have hc := h.cellAt i (by omega)
    rw [cell_of_row _ _ _ _ _ _ hcur] at hc
    rw [hc]
    simp [flat, hi]

theorem drew_size (w2 : World) (o : Obj) : w2.heap.size + 1 ≤ (w2.alloc o).drew.heap.size := by simp
theorem size_up {a b g : Nat} (h : b = a + 2) (k : b + 1 ≤ g) : a + 2 ≤ g := by omega
theorem copy_below {w2 w3 : World} {o : Obj} (h : (w2.alloc o).drew.grownBy w3 none) : Below w2.heap.size w2 w3 :=
  ((Below.refl _ w2).alloc (Nat.le_refl _) o).grown (w := w2.alloc o) (row := none) ⟨h.os, h.tape, h.output, h.size, h.block⟩ (by simp) (fun k e => by cases e)

set_option maxHeartbeats 4000000 in
set_option maxRecDepth 100000 in
theorem copy_some (s : Int) (ws : List Nat) (v : Value) (w : World) (hv : Bm w v s ws) (hln : ws.length ≤ 10000) (h0 : 0 < ws.length) :
    Calls Tryd.prog 49 #[v] w (CopyW w s ws) := by
  obtain ⟨hs, hr, A, cap, rfl, hcap, hcm, b, off, hA, hc⟩ := hv
  obtain ⟨rfl, hb⟩ := hA h0
  obtain ⟨i0, hi0, hz0, hz1, hz2⟩ := info_parts info55
  obtain ⟨w1, h1⟩ : ∃ w1, w.alloc (.cells #[.int .i64 s, .slice (some ⟨b, off, none⟩) ws.length cap] 24) = w1 := ⟨_, rfl⟩
  have z1 : w1.heap.size = w.heap.size + 1 := by rw [← h1]; simp
  obtain ⟨w2, h2⟩ : ∃ w2, w1.alloc (.cells #[.int .i64 0, .slice none 0 0] 24) = w2 := ⟨_, rfl⟩
  have z2 : w2.heap.size = w.heap.size + 2 := by rw [← h2]; simp; omega
  have rA : w2.heap[w.heap.size]? = some (.cells #[.int .i64 s, .slice (some ⟨b, off, none⟩) ws.length cap] 24 (0, 0)) := by
    rw [← h2]; refine (Below.heap_alloc _ _ _ (by omega)).trans ?_
    rw [← h1]; exact heap_alloc_new w _
  have rR : w2.heap[w.heap.size + 1]? = some (.cells #[.int .i64 0, .slice none 0 0] 24 (0, 0)) := by
    rw [← h2, ← z1]; exact heap_alloc_new w1 _
  have hB2 : Below w.heap.size w w2 := by
    rw [← h2, ← h1]
    exact ((Below.refl _ w).alloc (Nat.le_refl _) _).alloc (by simp) _
  have a0 := cell_of_row _ _ 0 _ _ _ rA
  have a1 := cell_of_row _ _ 1 _ _ _ rA
  have b0 := cell_of_row _ _ 0 _ _ _ rR
  have b1 := cell_of_row _ _ 1 _ _ _ rR
  have f0 : w2.frozen? ⟨w.heap.size + 1, 0, none⟩ = false := by unfold World.frozen?; rw [rR]; simp
  have f1 : w2.frozen? ⟨w.heap.size + 1, 1, none⟩ = false := by unfold World.frozen?; rw [rR]; simp
  have HNEWS := hid (fun (W : World) (hW : Below w2.heap.size w2 W) => show ∀ j u, (flat ws)[j]? = some u → W.cell? ((⟨b, off, none⟩ : Addr).add j) = some u from fun j u hu => by
    obtain ⟨x, hx, rfl⟩ := flat_get hu
    have hadd : (⟨b, off, none⟩ : Addr).add j = ⟨b, off + j, none⟩ := by unfold Addr.add; split <;> simp_all
    rw [hadd]
    exact (hW.cell (p := ⟨b, off + j, none⟩) (by show b < w2.heap.size; omega)).trans ((hB2.cell (p := ⟨b, off + j, none⟩) hb).trans (hc j x hx)))
  have RA := hid rA
  have RR := hid rR
  have HB2 := hid hB2
  have HC := hid hc
  have HR := hid hr
  clear rA rR hB2 hc hr
  go_enter Tryd.func49, Tryd.ntmps49
  go_wp2_with fail
  go_region_law (first | (refine step_append_grows rfl _ _ _ rfl 55 i0 _ 1 8 Tryd.underlying22 hi0 hz0 hz1 hz2 rfl (by omega) _ 0 0 [] rfl (fun h => by cases h) rfl (fun _ _ j u hu => by simp at hu) ⟨b, off, none⟩ ws.length cap (flat ws) rfl (by simp [flat_length]) (HNEWS.out _ ⟨rfl, rfl, rfl, by simp, fun q hq => Below.heap_alloc _ _ _ hq⟩) (flat_one ws) (by omega) (by unfold maxLen; omega) (by omega) ?_; intro v' w3 hown hgrow; simp only [Nat.zero_add, List.nil_append] at hown; obtain ⟨g, cp, rfl, hg0, hg1⟩ := hown.form h0; have HB3 : Hid (Below w2.heap.size w2 w3) := hid (copy_below hgrow); obtain ⟨f0, f1, f2, f3, HR5⟩ := res_facts HB3.out RR.out (by omega); have hg2 := Nat.le_trans (drew_size w2 _) hg0; have hg3 := size_up z2 hg2; have HWK := hid (wk_of_own hown); clear hg0 hg1 hg2; obtain ⟨a0, a1, _, _, _⟩ := res_facts HB3.out RA.out (by omega); clear hown hgrow))
  all_goals
    go_wp2
    refine bodyPost_ret (results_cell_row rfl _ _ (w.heap.size + 1) 24 #[.int .i64 s, .slice (some ⟨g, 0, none⟩) ws.length cp] (0, 0) _ rfl (box2_set HR5.out) und24 rfl size24) rfl ?_
    exact ⟨g, cp, rfl, by omega, HWK.out.1.box2 (by omega), HWK.out.2.2.1, HWK.out.2.2.2, box2_below (below_both HB2.out HB3.out) (by omega)⟩

theorem copy_h {w2 : World} {g : Nat} {x y a b : Value} {o : Obj} {t : TypeId} (hg : g < w2.heap.size) (h : w2.heap[g]? = some (.cells #[x, y] t (0, 0))) :
    ((((w2.setCell ⟨g, 0, none⟩ a).setCell ⟨g, 1, none⟩ b).alloc o).drew).heap[g]? = some (.cells #[a, b] t (0, 0)) :=
  (Below.heap_alloc _ _ _ (by simpa using hg)).trans (box2_set h)
theorem copy_k {w2 : World} {g k : Nat} {a b : Value} (hk : w2.heap.size = k) : Wk ((((w2.setCell ⟨g, 0, none⟩ a).setCell ⟨g, 1, none⟩ b).alloc (.cells #[] 55)).drew) k [] := by
  have h := heap_alloc_new ((w2.setCell ⟨g, 0, none⟩ a).setCell ⟨g, 1, none⟩ b) (.cells #[] 55)
  rw [show ((w2.setCell ⟨g, 0, none⟩ a).setCell ⟨g, 1, none⟩ b).heap.size = k by simpa using hk] at h
  exact ⟨#[], h, Nat.zero_le _, fun i x hi => by simp at hi⟩
theorem copy_b {w w2 : World} {g : Nat} {a b : Value} {o : Obj} (h : Below w.heap.size w w2) (hg : w.heap.size ≤ g) (hz : w.heap.size ≤ w2.heap.size) : Below w.heap.size w ((((w2.setCell ⟨g, 0, none⟩ a).setCell ⟨g, 1, none⟩ b).alloc o).drew) := by
  have k := (box2_below (a := a) (b := b) h hg).alloc (by simpa using hz) o
  exact ⟨k.os, k.tape, k.output, k.size, k.block⟩

set_option maxHeartbeats 4000000 in
set_option maxRecDepth 100000 in
theorem copy_none (s : Int) (A : Option Addr) (cap : Nat) (w : World) :
    Calls Tryd.prog 49 #[.agg #[.int .i64 s, .slice A 0 cap]] w (CopyW w s []) := by
  obtain ⟨i0, hi0, hz0, hz1, hz2⟩ := info_parts info55
  obtain ⟨w1, h1⟩ : ∃ w1, w.alloc (.cells #[.int .i64 s, .slice A 0 cap] 24) = w1 := ⟨_, rfl⟩
  have z1 : w1.heap.size = w.heap.size + 1 := by rw [← h1]; simp
  obtain ⟨w2, h2⟩ : ∃ w2, w1.alloc (.cells #[.int .i64 0, .slice none 0 0] 24) = w2 := ⟨_, rfl⟩
  have z2 : w2.heap.size = w.heap.size + 2 := by rw [← h2]; simp; omega
  have rA : w2.heap[w.heap.size]? = some (.cells #[.int .i64 s, .slice A 0 cap] 24 (0, 0)) := by
    rw [← h2]; refine (Below.heap_alloc _ _ _ (by omega)).trans ?_
    rw [← h1]; exact heap_alloc_new w _
  have rR : w2.heap[w.heap.size + 1]? = some (.cells #[.int .i64 0, .slice none 0 0] 24 (0, 0)) := by
    rw [← h2, ← z1]; exact heap_alloc_new w1 _
  have hB2 : Below w.heap.size w w2 := by
    rw [← h2, ← h1]
    exact ((Below.refl _ w).alloc (Nat.le_refl _) _).alloc (by simp) _
  have a0 := cell_of_row _ _ 0 _ _ _ rA
  have a1 := cell_of_row _ _ 1 _ _ _ rA
  have b0 := cell_of_row _ _ 0 _ _ _ rR
  have b1 := cell_of_row _ _ 1 _ _ _ rR
  have f0 : w2.frozen? ⟨w.heap.size + 1, 0, none⟩ = false := by unfold World.frozen?; rw [rR]; simp
  have f1 : w2.frozen? ⟨w.heap.size + 1, 1, none⟩ = false := by unfold World.frozen?; rw [rR]; simp
  have RR := hid rR
  have HB2 := hid hB2
  clear rA rR hB2
  cases A with
  | none =>
    go_enter Tryd.func49, Tryd.ntmps49
    go_wp2_with fail
    go_region
    all_goals
      go_wp2
      refine bodyPost_ret (results_cell_row rfl _ _ (w.heap.size + 1) 24 #[.int .i64 s, .slice (some ⟨w.heap.size + 2, 0, none⟩) 0 0] (0, 0) _ rfl (copy_h (by omega) RR.out) und24 rfl size24) rfl ?_
      exact ⟨w.heap.size + 2, 0, rfl, by omega, copy_k (by omega), Nat.le_refl _, by unfold maxLen; omega, copy_b HB2.out (by omega) (by omega)⟩
  | some ad =>
    go_enter Tryd.func49, Tryd.ntmps49
    go_wp2_with fail
    go_region
    all_goals
      go_wp2
      refine bodyPost_ret (results_cell_row rfl _ _ (w.heap.size + 1) 24 #[.int .i64 s, .slice (some ⟨w.heap.size + 2, 0, none⟩) 0 0] (0, 0) _ rfl (copy_h (by omega) RR.out) und24 rfl size24) rfl ?_
      exact ⟨w.heap.size + 2, 0, rfl, by omega, copy_k (by omega), Nat.le_refl _, by unfold maxLen; omega, copy_b HB2.out (by omega) (by omega)⟩
theorem copy_any (s : Int) (ws : List Nat) (v : Value) (w : World) (hv : Bm w v s ws) (hln : ws.length ≤ 10000) :
    Calls Tryd.prog 49 #[v] w (CopyW w s ws) := by
  rcases Nat.eq_zero_or_pos ws.length with h | h
  · obtain ⟨A, cap, rfl⟩ := hv.form
    have : ws = [] := List.eq_nil_of_length_eq_zero h
    subst this
    exact copy_none s A cap w
  · exact copy_some s ws v w hv hln h
end Go.Proofs.YtbifhcjkdfocaaaDoor
