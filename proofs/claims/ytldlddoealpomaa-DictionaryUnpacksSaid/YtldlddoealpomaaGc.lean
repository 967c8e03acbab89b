/- isZero, single. -/
import Derived.Test.YtldlddoealpomaaGa
import Derived.Test.YtldlddoealpomaaGb
import Derived.Deep.RegionHeld3
import Derived.Deep.DeepCutAuto
namespace Go.Proofs.Ytldlddoealpomaa.Rl
open Go.RowKit Go.Lib

theorem zs8 : zs.length = 8 ∧ B8 zs := ⟨rfl, by unfold B8 zs; decide⟩
set_option maxHeartbeats 2000000 in
set_option maxRecDepth 100000 in
theorem isZero_any (s : List Nat) (w : World) (hs : s.length = 8) (h8 : B8 s) :
    Calls Try.prog 76 #[.agg (cSec s).toArray] w fun e w' => e = .returned (.bool (decide (s = zs))) ∧ w.alloc (.cells (cSec s).toArray 44) = w' := by
  have heq := fun (W : World) => eql_sec s zs hs zs8.1 h8 zs8.2 W
  obtain ⟨x0, x1, x2, x3, x4, x5, x6, x7, rfl⟩ := list8 hs
  obtain ⟨bb, hbb⟩ : ∃ bb, decide ([x0, x1, x2, x3, x4, x5, x6, x7] = zs) = bb := ⟨_, rfl⟩
  rw [hbb] at heq ⊢
  have heq2 : ∀ W : World, (Op.equalIn 10000 44 (.agg #[.int .u8 (x0 : Int), .int .u8 (x1 : Int), .int .u8 (x2 : Int), .int .u8 (x3 : Int), .int .u8 (x4 : Int), .int .u8 (x5 : Int), .int .u8 (x6 : Int), .int .u8 (x7 : Int)]) (.agg #[.int .u8 0, .int .u8 0, .int .u8 0, .int .u8 0, .int .u8 0, .int .u8 0, .int .u8 0, .int .u8 0])).run Try.prog W = .ok bb W := heq
  clear heq hbb hs h8
  show Calls Try.prog 76 #[.agg #[.int .u8 (x0 : Int), .int .u8 (x1 : Int), .int .u8 (x2 : Int), .int .u8 (x3 : Int), .int .u8 (x4 : Int), .int .u8 (x5 : Int), .int .u8 (x6 : Int), .int .u8 (x7 : Int)]] w _
  go_enter Try.func76, Try.ntmps76
  go_wp2
  go_ret
  exact ⟨rfl, rfl⟩

/-- The sector s lies at an offset of a block. -/
def Sc (w : World) (b o : Nat) (s : List Nat) : Prop := ∀ (j : Nat) (u : Value), (cSec s)[j]? = some u → w.cell? ⟨b, o + j, none⟩ = some u
theorem Sc.facts {w : World} {b o x0 x1 x2 x3 x4 x5 x6 x7 : Nat} (h : Sc w b o [x0, x1, x2, x3, x4, x5, x6, x7]) :
    w.cell? ⟨b, o, none⟩ = some (.int .u8 (x0 : Int)) ∧ w.cell? ⟨b, o + 1, none⟩ = some (.int .u8 (x1 : Int)) ∧ w.cell? ⟨b, o + 2, none⟩ = some (.int .u8 (x2 : Int)) ∧ w.cell? ⟨b, o + 3, none⟩ = some (.int .u8 (x3 : Int)) ∧
    w.cell? ⟨b, o + 4, none⟩ = some (.int .u8 (x4 : Int)) ∧ w.cell? ⟨b, o + 5, none⟩ = some (.int .u8 (x5 : Int)) ∧ w.cell? ⟨b, o + 6, none⟩ = some (.int .u8 (x6 : Int)) ∧ w.cell? ⟨b, o + 7, none⟩ = some (.int .u8 (x7 : Int)) :=
  ⟨h 0 _ rfl, h 1 _ rfl, h 2 _ rfl, h 3 _ rfl, h 4 _ rfl, h 5 _ rfl, h 6 _ rfl, h 7 _ rfl⟩
theorem Sc.below {w w' : World} {b o : Nat} {s : List Nat} (h : Sc w b o s) (hlt : b < w.heap.size) (hb : Below w.heap.size w w') : Sc w' b o s :=
  fun j u hj => (hb.cell (p := ⟨b, o + j, none⟩) hlt).trans (h j u hj)
/-- A list of sectors that is not empty lies in a block. -/
theorem sec_at {w : World} {v : Value} {l : List (List Nat)} (h : Sec w v l) (h0 : l ≠ []) : ∃ b off cap, v = .slice (some ⟨b, off, none⟩) l.length cap ∧ l.length ≤ cap ∧ cap ≤ maxLen ∧ b < w.heap.size ∧ ∀ (i : Nat) (s : List Nat), l[i]? = some s → Sc w b (off + i * 8) s := by
  obtain ⟨_, A, cap, rfl, h1, h2, b, off, hA, hc⟩ := h
  rw [List.length_map] at hA h1
  obtain ⟨rfl, hb⟩ := hA (List.length_pos_iff.2 h0)
  exact ⟨b, off, cap, by rw [List.length_map], h1, h2, hb, fun i s hs j u hu => hc i _ (by rw [List.getElem?_map, hs]; rfl) j u hu⟩

set_option maxHeartbeats 2000000 in
set_option maxRecDepth 100000 in
theorem single_two (a c : List Nat) (t : List (List Nat)) (v : Value) (w : World) (hv : Sec w v (a :: c :: t)) (hz : a ≠ zs) :
    Calls Try.prog 75 #[v] w fun e w' => e = .returned (.bool (decide (a ≠ c))) ∧ Below w.heap.size w w' := by
  obtain ⟨b, off, cap, rfl, hc1, hc2, hbl, hs⟩ := sec_at hv (List.cons_ne_nil _ _)
  have ha := hv.1 a (by simp)
  have hc := hv.1 c (by simp)
  have s0 := hs 0 a rfl
  have s1 := hs 1 c rfl
  have heq := fun (W : World) => eql_sec a c ha.1 hc.1 ha.2 hc.2 W
  have HZ := hid (fun W : World => isZero_any a W ha.1 ha.2)
  obtain ⟨x0, x1, x2, x3, x4, x5, x6, x7, rfl⟩ := list8 ha.1
  obtain ⟨y0, y1, y2, y3, y4, y5, y6, y7, rfl⟩ := list8 hc.1
  obtain ⟨p0, p1, p2, p3, p4, p5, p6, p7⟩ := s0.facts
  obtain ⟨q0, q1, q2, q3, q4, q5, q6, q7⟩ := s1.facts
  rw [Nat.zero_mul, Nat.add_zero] at p0 p1 p2 p3 p4 p5 p6 p7
  rw [Nat.one_mul] at q0 q1 q2 q3 q4 q5 q6 q7
  rw [decide_eq_false hz] at HZ
  clear hv hs s0 s1 ha hc hz
  have hln : ((((([x0, x1, x2, x3, x4, x5, x6, x7] :: [y0, y1, y2, y3, y4, y5, y6, y7] :: t).length : Nat)) : Int) == 1) = false := by rw [beq_eq_false_iff_ne]; simp; omega
  obtain ⟨n, hn⟩ : ∃ n, ([x0, x1, x2, x3, x4, x5, x6, x7] :: [y0, y1, y2, y3, y4, y5, y6, y7] :: t).length = n := ⟨_, rfl⟩
  have hn2 : 2 ≤ n := by rw [← hn]; simp
  rw [hn] at hln hc1 ⊢
  clear hn
  obtain ⟨bb, hbb⟩ : ∃ bb, decide ([x0, x1, x2, x3, x4, x5, x6, x7] = [y0, y1, y2, y3, y4, y5, y6, y7]) = bb := ⟨_, rfl⟩
  rw [hbb] at heq
  have HBB := hid hbb
  have heq2 : ∀ W : World, (Op.equalIn 10000 44 (.agg #[.int .u8 (x0 : Int), .int .u8 (x1 : Int), .int .u8 (x2 : Int), .int .u8 (x3 : Int), .int .u8 (x4 : Int), .int .u8 (x5 : Int), .int .u8 (x6 : Int), .int .u8 (x7 : Int)]) (.agg #[.int .u8 (y0 : Int), .int .u8 (y1 : Int), .int .u8 (y2 : Int), .int .u8 (y3 : Int), .int .u8 (y4 : Int), .int .u8 (y5 : Int), .int .u8 (y6 : Int), .int .u8 (y7 : Int)])).run Try.prog W = .ok bb W := heq
  clear heq hbb
  go_enter Try.func75, Try.ntmps75
  go_wp2_with fail
  have HY := hid (fun (X : World) (h : Below w.heap.size w X) => show X.cell? ⟨b, off, none⟩ = some (.int .u8 (x0 : Int)) ∧ X.cell? ⟨b, off + 1, none⟩ = some (.int .u8 (x1 : Int)) ∧ X.cell? ⟨b, off + 2, none⟩ = some (.int .u8 (x2 : Int)) ∧ X.cell? ⟨b, off + 3, none⟩ = some (.int .u8 (x3 : Int)) ∧ X.cell? ⟨b, off + 4, none⟩ = some (.int .u8 (x4 : Int)) ∧ X.cell? ⟨b, off + 5, none⟩ = some (.int .u8 (x5 : Int)) ∧ X.cell? ⟨b, off + 6, none⟩ = some (.int .u8 (x6 : Int)) ∧ X.cell? ⟨b, off + 7, none⟩ = some (.int .u8 (x7 : Int)) ∧ X.cell? ⟨b, off + 8, none⟩ = some (.int .u8 (y0 : Int)) ∧ X.cell? ⟨b, off + 8 + 1, none⟩ = some (.int .u8 (y1 : Int)) ∧ X.cell? ⟨b, off + 8 + 2, none⟩ = some (.int .u8 (y2 : Int)) ∧ X.cell? ⟨b, off + 8 + 3, none⟩ = some (.int .u8 (y3 : Int)) ∧ X.cell? ⟨b, off + 8 + 4, none⟩ = some (.int .u8 (y4 : Int)) ∧ X.cell? ⟨b, off + 8 + 5, none⟩ = some (.int .u8 (y5 : Int)) ∧ X.cell? ⟨b, off + 8 + 6, none⟩ = some (.int .u8 (y6 : Int)) ∧ X.cell? ⟨b, off + 8 + 7, none⟩ = some (.int .u8 (y7 : Int)) from ⟨(h.cell (p := ⟨b, _, none⟩) hbl).trans p0, (h.cell (p := ⟨b, _, none⟩) hbl).trans p1, (h.cell (p := ⟨b, _, none⟩) hbl).trans p2, (h.cell (p := ⟨b, _, none⟩) hbl).trans p3, (h.cell (p := ⟨b, _, none⟩) hbl).trans p4, (h.cell (p := ⟨b, _, none⟩) hbl).trans p5, (h.cell (p := ⟨b, _, none⟩) hbl).trans p6, (h.cell (p := ⟨b, _, none⟩) hbl).trans p7, (h.cell (p := ⟨b, _, none⟩) hbl).trans q0, (h.cell (p := ⟨b, _, none⟩) hbl).trans q1, (h.cell (p := ⟨b, _, none⟩) hbl).trans q2, (h.cell (p := ⟨b, _, none⟩) hbl).trans q3, (h.cell (p := ⟨b, _, none⟩) hbl).trans q4, (h.cell (p := ⟨b, _, none⟩) hbl).trans q5, (h.cell (p := ⟨b, _, none⟩) hbl).trans q6, (h.cell (p := ⟨b, _, none⟩) hbl).trans q7⟩)
  have HB0 := hid (below_drew (Below.refl w.heap.size w))
  have hn0 : 0 < n := by omega
  have hn1 : (1 : Int) < (n : Int) := by omega
  go_region_held3 (fun X => X.cell? ⟨b, off, none⟩ = some (.int .u8 (x0 : Int)) ∧ X.cell? ⟨b, off + 1, none⟩ = some (.int .u8 (x1 : Int)) ∧ X.cell? ⟨b, off + 2, none⟩ = some (.int .u8 (x2 : Int)) ∧ X.cell? ⟨b, off + 3, none⟩ = some (.int .u8 (x3 : Int)) ∧ X.cell? ⟨b, off + 4, none⟩ = some (.int .u8 (x4 : Int)) ∧ X.cell? ⟨b, off + 5, none⟩ = some (.int .u8 (x5 : Int)) ∧ X.cell? ⟨b, off + 6, none⟩ = some (.int .u8 (x6 : Int)) ∧ X.cell? ⟨b, off + 7, none⟩ = some (.int .u8 (x7 : Int)) ∧ X.cell? ⟨b, off + 8, none⟩ = some (.int .u8 (y0 : Int)) ∧ X.cell? ⟨b, off + 8 + 1, none⟩ = some (.int .u8 (y1 : Int)) ∧ X.cell? ⟨b, off + 8 + 2, none⟩ = some (.int .u8 (y2 : Int)) ∧ X.cell? ⟨b, off + 8 + 3, none⟩ = some (.int .u8 (y3 : Int)) ∧ X.cell? ⟨b, off + 8 + 4, none⟩ = some (.int .u8 (y4 : Int)) ∧ X.cell? ⟨b, off + 8 + 5, none⟩ = some (.int .u8 (y5 : Int)) ∧ X.cell? ⟨b, off + 8 + 6, none⟩ = some (.int .u8 (y6 : Int)) ∧ X.cell? ⟨b, off + 8 + 7, none⟩ = some (.int .u8 (y7 : Int))) (go_keep)
    (first
      | (go_at_call 76; refine (HZ.out _).mono ?_; rintro e w1 ⟨rfl, hw1⟩; have HB1 := hid (show Below w.heap.size w w1 from hw1 ▸ HB0.out.alloc (Nat.le_refl _) _); clear hw1 p0 p1 p2 p3 p4 p5 p6 p7 q0 q1 q2 q3 q4 q5 q6 q7; obtain ⟨p0, p1, p2, p3, p4, p5, p6, p7, q0, q1, q2, q3, q4, q5, q6, q7⟩ := HY.out _ HB1.out))
  go_wp2
  go_ret
  refine ⟨?_, HB1.out⟩
  rw [← HBB.out]
  simp
/- END2 -/
set_option maxHeartbeats 2000000 in
set_option maxRecDepth 100000 in
theorem single_zero (a : List Nat) (t : List (List Nat)) (v : Value) (w : World) (hv : Sec w v (a :: t)) (hz : a = zs) :
    Calls Try.prog 75 #[v] w fun e w' => e = .returned (.bool false) ∧ Below w.heap.size w w' := by
  obtain ⟨b, off, cap, rfl, hc1, hc2, hbl, hs⟩ := sec_at hv (List.cons_ne_nil _ _)
  have ha := hv.1 a (by simp)
  have s0 := hs 0 a rfl
  have HZ := hid (fun W : World => isZero_any a W ha.1 ha.2)
  obtain ⟨x0, x1, x2, x3, x4, x5, x6, x7, rfl⟩ := list8 ha.1
  obtain ⟨p0, p1, p2, p3, p4, p5, p6, p7⟩ := s0.facts
  rw [Nat.zero_mul, Nat.add_zero] at p0 p1 p2 p3 p4 p5 p6 p7
  rw [decide_eq_true hz] at HZ
  clear hv hs s0 ha hz
  obtain ⟨n, hn⟩ : ∃ n, ([x0, x1, x2, x3, x4, x5, x6, x7] :: t).length = n := ⟨_, rfl⟩
  have hn0 : 0 < n := by rw [← hn]; simp
  rw [hn] at hc1 ⊢
  clear hn
  go_enter Try.func75, Try.ntmps75
  go_wp2_with fail
  have HY := hid (fun (X : World) (h : Below w.heap.size w X) => show X.cell? ⟨b, off, none⟩ = some (.int .u8 (x0 : Int)) ∧ X.cell? ⟨b, off + 1, none⟩ = some (.int .u8 (x1 : Int)) ∧ X.cell? ⟨b, off + 2, none⟩ = some (.int .u8 (x2 : Int)) ∧ X.cell? ⟨b, off + 3, none⟩ = some (.int .u8 (x3 : Int)) ∧ X.cell? ⟨b, off + 4, none⟩ = some (.int .u8 (x4 : Int)) ∧ X.cell? ⟨b, off + 5, none⟩ = some (.int .u8 (x5 : Int)) ∧ X.cell? ⟨b, off + 6, none⟩ = some (.int .u8 (x6 : Int)) ∧ X.cell? ⟨b, off + 7, none⟩ = some (.int .u8 (x7 : Int)) from ⟨(h.cell (p := ⟨b, _, none⟩) hbl).trans p0, (h.cell (p := ⟨b, _, none⟩) hbl).trans p1, (h.cell (p := ⟨b, _, none⟩) hbl).trans p2, (h.cell (p := ⟨b, _, none⟩) hbl).trans p3, (h.cell (p := ⟨b, _, none⟩) hbl).trans p4, (h.cell (p := ⟨b, _, none⟩) hbl).trans p5, (h.cell (p := ⟨b, _, none⟩) hbl).trans p6, (h.cell (p := ⟨b, _, none⟩) hbl).trans p7⟩)
  have HB0 := hid (below_drew (Below.refl w.heap.size w))
  refine wp_region_held_drew (S := (fun X : World => X.cell? ⟨b, off, none⟩ = some (.int .u8 (x0 : Int)) ∧ X.cell? ⟨b, off + 1, none⟩ = some (.int .u8 (x1 : Int)) ∧ X.cell? ⟨b, off + 2, none⟩ = some (.int .u8 (x2 : Int)) ∧ X.cell? ⟨b, off + 3, none⟩ = some (.int .u8 (x3 : Int)) ∧ X.cell? ⟨b, off + 4, none⟩ = some (.int .u8 (x4 : Int)) ∧ X.cell? ⟨b, off + 5, none⟩ = some (.int .u8 (x5 : Int)) ∧ X.cell? ⟨b, off + 6, none⟩ = some (.int .u8 (x6 : Int)) ∧ X.cell? ⟨b, off + 7, none⟩ = some (.int .u8 (x7 : Int)))) (by kernel_rfl) ⟨p0, p1, p2, p3, p4, p5, p6, p7⟩ (fun hHeld => ?_)
  refine' wpAnyH_take (i := 0) (oi := ?oi1) (v := ?v1) ?hi1 (by kernel_rfl) (by kernel_rfl) (by kernel_rfl) ?hq1 ?hy1 (by assumption) ?rest1
  case hi1 => (simp only [List.getElem?_toArray, List.getElem?_cons_zero]; rfl)
  case hq1 => exact fun _ _ _ h => h
  case hy1 => (refine Or.inl ⟨by rfl, ?_⟩; intro w' hSw; (try dsimp only at hSw); go_simp; try with_reducible rfl)
  (try simp only [Act.put, List.setIfInBounds_toArray, List.set_cons_zero, List.set_cons_succ])
  refine' wpAnyH_take (i := 1) (oi := ?oi2) (v := ?v2) ?hi2 (by kernel_rfl) (by kernel_rfl) (by kernel_rfl) ?hq2 ?hy2 (by assumption) ?rest2
  case hi2 => (simp only [List.getElem?_toArray, List.getElem?_cons_zero, List.getElem?_cons_succ]; rfl)
  case hq2 => exact fun _ _ _ h => h
  case hy2 => (refine Or.inl ⟨by rfl, ?_⟩; intro w' hSw; (try dsimp only at hSw); go_simp; try with_reducible rfl)
  (try simp only [Act.put, List.setIfInBounds_toArray, List.set_cons_zero, List.set_cons_succ])
  refine' wpAnyH_take (i := 2) (oi := ?oi3) (v := ?v3) ?hi3 (by kernel_rfl) (by kernel_rfl) (by kernel_rfl) ?hq3 ?hy3 (by assumption) ?rest3
  case hi3 => (simp only [List.getElem?_toArray, List.getElem?_cons_zero, List.getElem?_cons_succ]; rfl)
  case hq3 => exact fun _ _ _ h => h
  case hy3 => (refine Or.inl ⟨by rfl, ?_⟩; intro w' hSw; (try dsimp only at hSw); go_simp; try with_reducible rfl)
  (try simp only [Act.put, List.setIfInBounds_toArray, List.set_cons_zero, List.set_cons_succ])
  refine wpAnyH_ready (rs := [3]) (by kernel_rfl) (by simp) ?_
  refine' AllReadyH.cons (o := ?oi4) ?hi4 (fun K hK => ?st4) AllReadyH.nil
  case hi4 => (simp only [List.getElem?_toArray, List.getElem?_cons_zero, List.getElem?_cons_succ]; rfl)
  go_simp
  refine (HZ.out _).mono ?_
  rintro e w1 ⟨rfl, hw1⟩
  have HB1 := hid (show Below w.heap.size w w1 from hw1 ▸ HB0.out.alloc (Nat.le_refl _) _)
  clear hw1 p0 p1 p2 p3 p4 p5 p6 p7
  obtain ⟨p0, p1, p2, p3, p4, p5, p6, p7⟩ := HY.out _ HB1.out
  refine hK.out _ _ ⟨p0, p1, p2, p3, p4, p5, p6, p7⟩ (fun hHeld => ?_)
  clear hK K
  (try simp only [Act.put, List.setIfInBounds_toArray, List.set_cons_zero, List.set_cons_succ])
  refine' wpAnyH_take (i := 4) (oi := ?oi5) (v := ?v5) ?hi5 (by kernel_rfl) (by kernel_rfl) (by kernel_rfl) ?hq5 ?hy5 (by assumption) ?rest5
  case hi5 => (simp only [List.getElem?_toArray, List.getElem?_cons_zero, List.getElem?_cons_succ]; rfl)
  case hq5 => exact fun _ _ _ h => h
  case hy5 => (refine Or.inl ⟨by rfl, ?_⟩; intro w' hSw; (try dsimp only at hSw); go_simp; try with_reducible rfl)
  (try simp only [Act.put, List.setIfInBounds_toArray, List.set_cons_zero, List.set_cons_succ])
  refine' wpAnyH_take (i := 5) (oi := ?oi6) (v := ?v6) ?hi6 (by kernel_rfl) (by kernel_rfl) (by kernel_rfl) ?hq6 ?hy6 (by assumption) ?rest6
  case hi6 => (simp only [List.getElem?_toArray, List.getElem?_cons_zero, List.getElem?_cons_succ]; rfl)
  case hq6 => exact fun _ _ _ h => h
  case hy6 => (refine Or.inl ⟨by rfl, ?_⟩; intro w' hSw; (try dsimp only at hSw); go_simp; try with_reducible rfl)
  (try simp only [Act.put, List.setIfInBounds_toArray, List.set_cons_zero, List.set_cons_succ])
  refine' wpAnyH_take (i := 6) (oi := ?oi7) (v := undef) ?hi7 (by kernel_rfl) (by kernel_rfl) (by kernel_rfl) ?hq7 ?hy7 (by assumption) ?rest7
  case hi7 => (simp only [List.getElem?_toArray, List.getElem?_cons_zero, List.getElem?_cons_succ]; rfl)
  case hq7 => exact fun _ _ _ h => h
  case hy7 => exact Or.inr ⟨by rfl, rfl⟩
  (try simp only [Act.put, List.setIfInBounds_toArray, List.set_cons_zero, List.set_cons_succ])
  refine' wpAnyH_take (i := 7) (oi := ?oi8) (v := undef) ?hi8 (by kernel_rfl) (by kernel_rfl) (by kernel_rfl) ?hq8 ?hy8 (by assumption) ?rest8
  case hi8 => (simp only [List.getElem?_toArray, List.getElem?_cons_zero, List.getElem?_cons_succ]; rfl)
  case hq8 => exact fun _ _ _ h => h
  case hy8 => exact Or.inr ⟨by rfl, rfl⟩
  (try simp only [Act.put, List.setIfInBounds_toArray, List.set_cons_zero, List.set_cons_succ])
  refine' wpAnyH_take (i := 8) (oi := ?oi9) (v := undef) ?hi9 (by kernel_rfl) (by kernel_rfl) (by kernel_rfl) ?hq9 ?hy9 (by assumption) ?rest9
  case hi9 => (simp only [List.getElem?_toArray, List.getElem?_cons_zero, List.getElem?_cons_succ]; rfl)
  case hq9 => exact fun _ _ _ h => h
  case hy9 => exact Or.inr ⟨by rfl, rfl⟩
  (try simp only [Act.put, List.setIfInBounds_toArray, List.set_cons_zero, List.set_cons_succ])
  refine' wpAnyH_take (i := 9) (oi := ?oi10) (v := undef) ?hi10 (by kernel_rfl) (by kernel_rfl) (by kernel_rfl) ?hq10 ?hy10 (by assumption) ?rest10
  case hi10 => (simp only [List.getElem?_toArray, List.getElem?_cons_zero, List.getElem?_cons_succ]; rfl)
  case hq10 => exact fun _ _ _ h => h
  case hy10 => exact Or.inr ⟨by rfl, rfl⟩
  (try simp only [Act.put, List.setIfInBounds_toArray, List.set_cons_zero, List.set_cons_succ])
  refine' wpAnyH_take (i := 10) (oi := ?oi11) (v := undef) ?hi11 (by kernel_rfl) (by kernel_rfl) (by kernel_rfl) ?hq11 ?hy11 (by assumption) ?rest11
  case hi11 => (simp only [List.getElem?_toArray, List.getElem?_cons_zero, List.getElem?_cons_succ]; rfl)
  case hq11 => exact fun _ _ _ h => h
  case hy11 => exact Or.inr ⟨by rfl, rfl⟩
  (try simp only [Act.put, List.setIfInBounds_toArray, List.set_cons_zero, List.set_cons_succ])
  refine' wpAnyH_take (i := 11) (oi := ?oi12) (v := undef) ?hi12 (by kernel_rfl) (by kernel_rfl) (by kernel_rfl) ?hq12 ?hy12 (by assumption) ?rest12
  case hi12 => (simp only [List.getElem?_toArray, List.getElem?_cons_zero, List.getElem?_cons_succ]; rfl)
  case hq12 => exact fun _ _ _ h => h
  case hy12 => exact Or.inr ⟨by rfl, rfl⟩
  (try simp only [Act.put, List.setIfInBounds_toArray, List.set_cons_zero, List.set_cons_succ])
  refine' wpAnyH_take (i := 12) (oi := ?oi13) (v := undef) ?hi13 (by kernel_rfl) (by kernel_rfl) (by kernel_rfl) ?hq13 ?hy13 (by assumption) ?rest13
  case hi13 => (simp only [List.getElem?_toArray, List.getElem?_cons_zero, List.getElem?_cons_succ]; rfl)
  case hq13 => exact fun _ _ _ h => h
  case hy13 => exact Or.inr ⟨by rfl, rfl⟩
  (try simp only [Act.put, List.setIfInBounds_toArray, List.set_cons_zero, List.set_cons_succ])
  refine' wpAnyH_take (i := 13) (oi := ?oi14) (v := undef) ?hi14 (by kernel_rfl) (by kernel_rfl) (by kernel_rfl) ?hq14 ?hy14 (by assumption) ?rest14
  case hi14 => (simp only [List.getElem?_toArray, List.getElem?_cons_zero, List.getElem?_cons_succ]; rfl)
  case hq14 => exact fun _ _ _ h => h
  case hy14 => exact Or.inr ⟨by rfl, rfl⟩
  (try simp only [Act.put, List.setIfInBounds_toArray, List.set_cons_zero, List.set_cons_succ])
  refine' wpAnyH_take (i := 14) (oi := ?oi15) (v := undef) ?hi15 (by kernel_rfl) (by kernel_rfl) (by kernel_rfl) ?hq15 ?hy15 (by assumption) ?rest15
  case hi15 => (simp only [List.getElem?_toArray, List.getElem?_cons_zero, List.getElem?_cons_succ]; rfl)
  case hq15 => exact fun _ _ _ h => h
  case hy15 => exact Or.inr ⟨by rfl, rfl⟩
  (try simp only [Act.put, List.setIfInBounds_toArray, List.set_cons_zero, List.set_cons_succ])
  refine' wpAnyH_take (i := 15) (oi := ?oi16) (v := undef) ?hi16 (by kernel_rfl) (by kernel_rfl) (by kernel_rfl) ?hq16 ?hy16 (by assumption) ?rest16
  case hi16 => (simp only [List.getElem?_toArray, List.getElem?_cons_zero, List.getElem?_cons_succ]; rfl)
  case hq16 => exact fun _ _ _ h => h
  case hy16 => exact Or.inr ⟨by rfl, rfl⟩
  (try simp only [Act.put, List.setIfInBounds_toArray, List.set_cons_zero, List.set_cons_succ])
  refine' wpAnyH_take (i := 16) (oi := ?oi17) (v := undef) ?hi17 (by kernel_rfl) (by kernel_rfl) (by kernel_rfl) ?hq17 ?hy17 (by assumption) ?rest17
  case hi17 => (simp only [List.getElem?_toArray, List.getElem?_cons_zero, List.getElem?_cons_succ]; rfl)
  case hq17 => exact fun _ _ _ h => h
  case hy17 => exact Or.inr ⟨by rfl, rfl⟩
  (try simp only [Act.put, List.setIfInBounds_toArray, List.set_cons_zero, List.set_cons_succ])
  refine' wpAnyH_take (i := 17) (oi := ?oi18) (v := undef) ?hi18 (by kernel_rfl) (by kernel_rfl) (by kernel_rfl) ?hq18 ?hy18 (by assumption) ?rest18
  case hi18 => (simp only [List.getElem?_toArray, List.getElem?_cons_zero, List.getElem?_cons_succ]; rfl)
  case hq18 => exact fun _ _ _ h => h
  case hy18 => exact Or.inr ⟨by rfl, rfl⟩
  (try simp only [Act.put, List.setIfInBounds_toArray, List.set_cons_zero, List.set_cons_succ])
  refine' wpAnyH_take (i := 18) (oi := ?oi19) (v := ?v19) ?hi19 (by kernel_rfl) (by kernel_rfl) (by kernel_rfl) ?hq19 ?hy19 (by assumption) ?rest19
  case hi19 => (simp only [List.getElem?_toArray, List.getElem?_cons_zero, List.getElem?_cons_succ]; rfl)
  case hq19 => exact fun _ _ _ h => h
  case hy19 => (refine Or.inl ⟨by rfl, ?_⟩; intro w' hSw; (try dsimp only at hSw); go_simp; try with_reducible rfl)
  (try simp only [Act.put, List.setIfInBounds_toArray, List.set_cons_zero, List.set_cons_succ])
  refine' wpAnyH_take (i := 19) (oi := ?oi20) (v := ?v20) ?hi20 (by kernel_rfl) (by kernel_rfl) (by kernel_rfl) ?hq20 ?hy20 (by assumption) ?rest20
  case hi20 => (simp only [List.getElem?_toArray, List.getElem?_cons_zero, List.getElem?_cons_succ]; rfl)
  case hq20 => exact fun _ _ _ h => h
  case hy20 => (refine Or.inl ⟨by rfl, ?_⟩; intro w' hSw; (try dsimp only at hSw); go_simp; try with_reducible rfl)
  (try simp only [Act.put, List.setIfInBounds_toArray, List.set_cons_zero, List.set_cons_succ])
  refine wpAnyH_done (by kernel_rfl) ?_ _
  go_wp2
  go_ret
  exact ⟨rfl, HB1.out⟩
set_option maxHeartbeats 2000000 in
set_option maxRecDepth 100000 in
theorem single_last (a : List Nat) (v : Value) (w : World) (hv : Sec w v [a]) (hz : a ≠ zs) :
    Calls Try.prog 75 #[v] w fun e w' => e = .returned (.bool true) ∧ Below w.heap.size w w' := by
  obtain ⟨b, off, cap, rfl, hc1, hc2, hbl, hs⟩ := sec_at hv (List.cons_ne_nil _ _)
  have ha := hv.1 a (by simp)
  have s0 := hs 0 a rfl
  have HZ := hid (fun W : World => isZero_any a W ha.1 ha.2)
  obtain ⟨x0, x1, x2, x3, x4, x5, x6, x7, rfl⟩ := list8 ha.1
  obtain ⟨p0, p1, p2, p3, p4, p5, p6, p7⟩ := s0.facts
  rw [Nat.zero_mul, Nat.add_zero] at p0 p1 p2 p3 p4 p5 p6 p7
  rw [decide_eq_false hz] at HZ
  clear hv hs s0 ha hz
  show Calls Try.prog 75 #[.slice (some ⟨b, off, none⟩) 1 cap] w _
  rw [List.length_singleton] at hc1
  go_enter Try.func75, Try.ntmps75
  go_wp2_with fail
  have HY := hid (fun (X : World) (h : Below w.heap.size w X) => show X.cell? ⟨b, off, none⟩ = some (.int .u8 (x0 : Int)) ∧ X.cell? ⟨b, off + 1, none⟩ = some (.int .u8 (x1 : Int)) ∧ X.cell? ⟨b, off + 2, none⟩ = some (.int .u8 (x2 : Int)) ∧ X.cell? ⟨b, off + 3, none⟩ = some (.int .u8 (x3 : Int)) ∧ X.cell? ⟨b, off + 4, none⟩ = some (.int .u8 (x4 : Int)) ∧ X.cell? ⟨b, off + 5, none⟩ = some (.int .u8 (x5 : Int)) ∧ X.cell? ⟨b, off + 6, none⟩ = some (.int .u8 (x6 : Int)) ∧ X.cell? ⟨b, off + 7, none⟩ = some (.int .u8 (x7 : Int)) from ⟨(h.cell (p := ⟨b, _, none⟩) hbl).trans p0, (h.cell (p := ⟨b, _, none⟩) hbl).trans p1, (h.cell (p := ⟨b, _, none⟩) hbl).trans p2, (h.cell (p := ⟨b, _, none⟩) hbl).trans p3, (h.cell (p := ⟨b, _, none⟩) hbl).trans p4, (h.cell (p := ⟨b, _, none⟩) hbl).trans p5, (h.cell (p := ⟨b, _, none⟩) hbl).trans p6, (h.cell (p := ⟨b, _, none⟩) hbl).trans p7⟩)
  have HB0 := hid (below_drew (Below.refl w.heap.size w))
  refine wp_region_held_drew (S := (fun X : World => X.cell? ⟨b, off, none⟩ = some (.int .u8 (x0 : Int)) ∧ X.cell? ⟨b, off + 1, none⟩ = some (.int .u8 (x1 : Int)) ∧ X.cell? ⟨b, off + 2, none⟩ = some (.int .u8 (x2 : Int)) ∧ X.cell? ⟨b, off + 3, none⟩ = some (.int .u8 (x3 : Int)) ∧ X.cell? ⟨b, off + 4, none⟩ = some (.int .u8 (x4 : Int)) ∧ X.cell? ⟨b, off + 5, none⟩ = some (.int .u8 (x5 : Int)) ∧ X.cell? ⟨b, off + 6, none⟩ = some (.int .u8 (x6 : Int)) ∧ X.cell? ⟨b, off + 7, none⟩ = some (.int .u8 (x7 : Int)))) (by kernel_rfl) ⟨p0, p1, p2, p3, p4, p5, p6, p7⟩ (fun hHeld => ?_)
  refine' wpAnyH_take (i := 0) (oi := ?oi21) (v := ?v21) ?hi21 (by kernel_rfl) (by kernel_rfl) (by kernel_rfl) ?hq21 ?hy21 (by assumption) ?rest21
  case hi21 => (simp only [List.getElem?_toArray, List.getElem?_cons_zero]; rfl)
  case hq21 => exact fun _ _ _ h => h
  case hy21 => (refine Or.inl ⟨by rfl, ?_⟩; intro w' hSw; (try dsimp only at hSw); go_simp; try with_reducible rfl)
  (try simp only [Act.put, List.setIfInBounds_toArray, List.set_cons_zero, List.set_cons_succ])
  refine' wpAnyH_take (i := 1) (oi := ?oi22) (v := ?v22) ?hi22 (by kernel_rfl) (by kernel_rfl) (by kernel_rfl) ?hq22 ?hy22 (by assumption) ?rest22
  case hi22 => (simp only [List.getElem?_toArray, List.getElem?_cons_zero, List.getElem?_cons_succ]; rfl)
  case hq22 => exact fun _ _ _ h => h
  case hy22 => (refine Or.inl ⟨by rfl, ?_⟩; intro w' hSw; (try dsimp only at hSw); go_simp; try with_reducible rfl)
  (try simp only [Act.put, List.setIfInBounds_toArray, List.set_cons_zero, List.set_cons_succ])
  refine' wpAnyH_take (i := 2) (oi := ?oi23) (v := ?v23) ?hi23 (by kernel_rfl) (by kernel_rfl) (by kernel_rfl) ?hq23 ?hy23 (by assumption) ?rest23
  case hi23 => (simp only [List.getElem?_toArray, List.getElem?_cons_zero, List.getElem?_cons_succ]; rfl)
  case hq23 => exact fun _ _ _ h => h
  case hy23 => (refine Or.inl ⟨by rfl, ?_⟩; intro w' hSw; (try dsimp only at hSw); go_simp; try with_reducible rfl)
  (try simp only [Act.put, List.setIfInBounds_toArray, List.set_cons_zero, List.set_cons_succ])
  refine wpAnyH_ready (rs := [3]) (by kernel_rfl) (by simp) ?_
  refine' AllReadyH.cons (o := ?oi24) ?hi24 (fun K hK => ?st24) AllReadyH.nil
  case hi24 => (simp only [List.getElem?_toArray, List.getElem?_cons_zero, List.getElem?_cons_succ]; rfl)
  go_simp
  refine (HZ.out _).mono ?_
  rintro e w1 ⟨rfl, hw1⟩
  have HB1 := hid (show Below w.heap.size w w1 from hw1 ▸ HB0.out.alloc (Nat.le_refl _) _)
  clear hw1 p0 p1 p2 p3 p4 p5 p6 p7
  obtain ⟨p0, p1, p2, p3, p4, p5, p6, p7⟩ := HY.out _ HB1.out
  refine hK.out _ _ ⟨p0, p1, p2, p3, p4, p5, p6, p7⟩ (fun hHeld => ?_)
  clear hK K
  (try simp only [Act.put, List.setIfInBounds_toArray, List.set_cons_zero, List.set_cons_succ])
  refine' wpAnyH_take (i := 4) (oi := ?oi25) (v := ?v25) ?hi25 (by kernel_rfl) (by kernel_rfl) (by kernel_rfl) ?hq25 ?hy25 (by assumption) ?rest25
  case hi25 => (simp only [List.getElem?_toArray, List.getElem?_cons_zero, List.getElem?_cons_succ]; rfl)
  case hq25 => exact fun _ _ _ h => h
  case hy25 => (refine Or.inl ⟨by rfl, ?_⟩; intro w' hSw; (try dsimp only at hSw); go_simp; try with_reducible rfl)
  (try simp only [Act.put, List.setIfInBounds_toArray, List.set_cons_zero, List.set_cons_succ])
  refine' wpAnyH_take (i := 5) (oi := ?oi26) (v := ?v26) ?hi26 (by kernel_rfl) (by kernel_rfl) (by kernel_rfl) ?hq26 ?hy26 (by assumption) ?rest26
  case hi26 => (simp only [List.getElem?_toArray, List.getElem?_cons_zero, List.getElem?_cons_succ]; rfl)
  case hq26 => exact fun _ _ _ h => h
  case hy26 => (refine Or.inl ⟨by rfl, ?_⟩; intro w' hSw; (try dsimp only at hSw); go_simp; try with_reducible rfl)
  (try simp only [Act.put, List.setIfInBounds_toArray, List.set_cons_zero, List.set_cons_succ])
  refine' wpAnyH_take (i := 6) (oi := ?oi27) (v := ?v27) ?hi27 (by kernel_rfl) (by kernel_rfl) (by kernel_rfl) ?hq27 ?hy27 (by assumption) ?rest27
  case hi27 => (simp only [List.getElem?_toArray, List.getElem?_cons_zero, List.getElem?_cons_succ]; rfl)
  case hq27 => exact fun _ _ _ h => h
  case hy27 => (refine Or.inl ⟨by rfl, ?_⟩; intro w' hSw; (try dsimp only at hSw); go_simp; try with_reducible rfl)
  (try simp only [Act.put, List.setIfInBounds_toArray, List.set_cons_zero, List.set_cons_succ])
  refine' wpAnyH_take (i := 7) (oi := ?oi28) (v := ?v28) ?hi28 (by kernel_rfl) (by kernel_rfl) (by kernel_rfl) ?hq28 ?hy28 (by assumption) ?rest28
  case hi28 => (simp only [List.getElem?_toArray, List.getElem?_cons_zero, List.getElem?_cons_succ]; rfl)
  case hq28 => exact fun _ _ _ h => h
  case hy28 => (refine Or.inl ⟨by rfl, ?_⟩; intro w' hSw; (try dsimp only at hSw); go_simp; try with_reducible rfl)
  (try simp only [Act.put, List.setIfInBounds_toArray, List.set_cons_zero, List.set_cons_succ])
  refine' wpAnyH_take (i := 8) (oi := ?oi29) (v := ?v29) ?hi29 (by kernel_rfl) (by kernel_rfl) (by kernel_rfl) ?hq29 ?hy29 (by assumption) ?rest29
  case hi29 => (simp only [List.getElem?_toArray, List.getElem?_cons_zero, List.getElem?_cons_succ]; rfl)
  case hq29 => exact fun _ _ _ h => h
  case hy29 => (refine Or.inl ⟨by rfl, ?_⟩; intro w' hSw; (try dsimp only at hSw); go_simp; try with_reducible rfl)
  (try simp only [Act.put, List.setIfInBounds_toArray, List.set_cons_zero, List.set_cons_succ])
  refine' wpAnyH_take (i := 9) (oi := ?oi30) (v := ?v30) ?hi30 (by kernel_rfl) (by kernel_rfl) (by kernel_rfl) ?hq30 ?hy30 (by assumption) ?rest30
  case hi30 => (simp only [List.getElem?_toArray, List.getElem?_cons_zero, List.getElem?_cons_succ]; rfl)
  case hq30 => exact fun _ _ _ h => h
  case hy30 => (refine Or.inl ⟨by rfl, ?_⟩; intro w' hSw; (try dsimp only at hSw); go_simp; try with_reducible rfl)
  (try simp only [Act.put, List.setIfInBounds_toArray, List.set_cons_zero, List.set_cons_succ])
  refine' wpAnyH_take (i := 10) (oi := ?oi31) (v := undef) ?hi31 (by kernel_rfl) (by kernel_rfl) (by kernel_rfl) ?hq31 ?hy31 (by assumption) ?rest31
  case hi31 => (simp only [List.getElem?_toArray, List.getElem?_cons_zero, List.getElem?_cons_succ]; rfl)
  case hq31 => exact fun _ _ _ h => h
  case hy31 => exact Or.inr ⟨by rfl, rfl⟩
  (try simp only [Act.put, List.setIfInBounds_toArray, List.set_cons_zero, List.set_cons_succ])
  refine' wpAnyH_take (i := 11) (oi := ?oi32) (v := undef) ?hi32 (by kernel_rfl) (by kernel_rfl) (by kernel_rfl) ?hq32 ?hy32 (by assumption) ?rest32
  case hi32 => (simp only [List.getElem?_toArray, List.getElem?_cons_zero, List.getElem?_cons_succ]; rfl)
  case hq32 => exact fun _ _ _ h => h
  case hy32 => exact Or.inr ⟨by rfl, rfl⟩
  (try simp only [Act.put, List.setIfInBounds_toArray, List.set_cons_zero, List.set_cons_succ])
  refine' wpAnyH_take (i := 12) (oi := ?oi33) (v := undef) ?hi33 (by kernel_rfl) (by kernel_rfl) (by kernel_rfl) ?hq33 ?hy33 (by assumption) ?rest33
  case hi33 => (simp only [List.getElem?_toArray, List.getElem?_cons_zero, List.getElem?_cons_succ]; rfl)
  case hq33 => exact fun _ _ _ h => h
  case hy33 => exact Or.inr ⟨by rfl, rfl⟩
  (try simp only [Act.put, List.setIfInBounds_toArray, List.set_cons_zero, List.set_cons_succ])
  refine' wpAnyH_take (i := 13) (oi := ?oi34) (v := undef) ?hi34 (by kernel_rfl) (by kernel_rfl) (by kernel_rfl) ?hq34 ?hy34 (by assumption) ?rest34
  case hi34 => (simp only [List.getElem?_toArray, List.getElem?_cons_zero, List.getElem?_cons_succ]; rfl)
  case hq34 => exact fun _ _ _ h => h
  case hy34 => exact Or.inr ⟨by rfl, rfl⟩
  (try simp only [Act.put, List.setIfInBounds_toArray, List.set_cons_zero, List.set_cons_succ])
  refine' wpAnyH_take (i := 14) (oi := ?oi35) (v := undef) ?hi35 (by kernel_rfl) (by kernel_rfl) (by kernel_rfl) ?hq35 ?hy35 (by assumption) ?rest35
  case hi35 => (simp only [List.getElem?_toArray, List.getElem?_cons_zero, List.getElem?_cons_succ]; rfl)
  case hq35 => exact fun _ _ _ h => h
  case hy35 => exact Or.inr ⟨by rfl, rfl⟩
  (try simp only [Act.put, List.setIfInBounds_toArray, List.set_cons_zero, List.set_cons_succ])
  refine' wpAnyH_take (i := 15) (oi := ?oi36) (v := undef) ?hi36 (by kernel_rfl) (by kernel_rfl) (by kernel_rfl) ?hq36 ?hy36 (by assumption) ?rest36
  case hi36 => (simp only [List.getElem?_toArray, List.getElem?_cons_zero, List.getElem?_cons_succ]; rfl)
  case hq36 => exact fun _ _ _ h => h
  case hy36 => exact Or.inr ⟨by rfl, rfl⟩
  (try simp only [Act.put, List.setIfInBounds_toArray, List.set_cons_zero, List.set_cons_succ])
  refine' wpAnyH_take (i := 16) (oi := ?oi37) (v := undef) ?hi37 (by kernel_rfl) (by kernel_rfl) (by kernel_rfl) ?hq37 ?hy37 (by assumption) ?rest37
  case hi37 => (simp only [List.getElem?_toArray, List.getElem?_cons_zero, List.getElem?_cons_succ]; rfl)
  case hq37 => exact fun _ _ _ h => h
  case hy37 => exact Or.inr ⟨by rfl, rfl⟩
  (try simp only [Act.put, List.setIfInBounds_toArray, List.set_cons_zero, List.set_cons_succ])
  refine' wpAnyH_take (i := 17) (oi := ?oi38) (v := ?v38) ?hi38 (by kernel_rfl) (by kernel_rfl) (by kernel_rfl) ?hq38 ?hy38 (by assumption) ?rest38
  case hi38 => (simp only [List.getElem?_toArray, List.getElem?_cons_zero, List.getElem?_cons_succ]; rfl)
  case hq38 => exact fun _ _ _ h => h
  case hy38 => (refine Or.inl ⟨by rfl, ?_⟩; intro w' hSw; (try dsimp only at hSw); go_simp; try with_reducible rfl)
  (try simp only [Act.put, List.setIfInBounds_toArray, List.set_cons_zero, List.set_cons_succ])
  refine' wpAnyH_take (i := 18) (oi := ?oi39) (v := ?v39) ?hi39 (by kernel_rfl) (by kernel_rfl) (by kernel_rfl) ?hq39 ?hy39 (by assumption) ?rest39
  case hi39 => (simp only [List.getElem?_toArray, List.getElem?_cons_zero, List.getElem?_cons_succ]; rfl)
  case hq39 => exact fun _ _ _ h => h
  case hy39 => (refine Or.inl ⟨by rfl, ?_⟩; intro w' hSw; (try dsimp only at hSw); go_simp; try with_reducible rfl)
  (try simp only [Act.put, List.setIfInBounds_toArray, List.set_cons_zero, List.set_cons_succ])
  refine' wpAnyH_take (i := 19) (oi := ?oi40) (v := ?v40) ?hi40 (by kernel_rfl) (by kernel_rfl) (by kernel_rfl) ?hq40 ?hy40 (by assumption) ?rest40
  case hi40 => (simp only [List.getElem?_toArray, List.getElem?_cons_zero, List.getElem?_cons_succ]; rfl)
  case hq40 => exact fun _ _ _ h => h
  case hy40 => (refine Or.inl ⟨by rfl, ?_⟩; intro w' hSw; (try dsimp only at hSw); go_simp; try with_reducible rfl)
  (try simp only [Act.put, List.setIfInBounds_toArray, List.set_cons_zero, List.set_cons_succ])
  refine wpAnyH_done (by kernel_rfl) ?_ _
  go_wp2
  go_ret
  exact ⟨rfl, HB1.out⟩
theorem single_any (l : List (List Nat)) (v : Value) (w : World) (hv : Sec w v l) (h0 : l ≠ []) :
    Calls Try.prog 75 #[v] w fun e w' => e = .returned (.bool (sgl l)) ∧ Below w.heap.size w w' := by
  rcases l with _ | ⟨a, t⟩
  · exact absurd rfl h0
  · by_cases hz : a = zs
    · have hs : sgl (a :: t) = false := by rw [sgl_iff, hz]; rfl
      rw [hs]
      exact single_zero a t v w hv hz
    · rcases t with _ | ⟨c, t⟩
      · have hs : sgl [a] = true := by simp [sgl, hz]
        rw [hs]
        exact single_last a v w hv hz
      · have hs : sgl (a :: c :: t) = decide (a ≠ c) := by simp [sgl, hz]
        rw [hs]
        exact single_two a c t v w hv hz
end Go.Proofs.Ytldlddoealpomaa.Rl
