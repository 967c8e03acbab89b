/- The reference's Interrupt. -/
import Derived.Test.YtoefbgkeinhibaaVb
namespace Go.Proofs.Ytoefbgkeinhibaa
open Go.RowKit Go.Lib

theorem arr_upd {w w' : World} {c T st : Nat} {v : Value} {rows : List (List Value)} {cs : Array Value} (h : Arr w v st rows) (hx : w.heap[c]? = some (.cells cs T)) (hcs : ∀ (i : Nat) (u : Value), cs[i]? = some u → ∀ r ∈ rows, u ∉ r) (h1 : w.heap.size ≤ w'.heap.size) (h2 : ∀ k, k < w.heap.size → k ≠ c → w'.heap[k]? = w.heap[k]?) : Arr w' v st rows := by
  obtain ⟨A, cap, e, q1, q2, b, off, hA, hc⟩ := h
  refine ⟨A, cap, e, q1, q2, b, off, fun hp => ⟨(hA hp).1, Nat.lt_of_lt_of_le (hA hp).2 h1⟩, fun i r hi j z hj => ?_⟩
  have h3 := hc i r hi j z hj
  have hl := (List.getElem?_eq_some_iff.1 hi).1
  have hb := (hA (by omega)).2
  by_cases hbc : b = c
  · subst hbc
    rw [cell_of_row _ _ _ _ _ _ hx] at h3
    exact absurd (List.mem_of_getElem? hj) (hcs _ _ h3 r (List.mem_of_getElem? hi))
  · unfold World.cell? at h3 ⊢
    rw [h2 b hb hbc]
    exact h3
def Slices (cs : Array Value) : Prop := ∀ (i : Nat) (u : Value), cs[i]? = some u → ∃ a n c, u = .slice a n c
theorem two_slices {A B : Option Addr} {n c m d : Nat} : Slices #[.slice A n c, .slice B m d] := fun i u h => by
  rcases i with _ | _ | i
  · simp at h; exact ⟨_, _, _, h.symm⟩
  · simp at h; exact ⟨_, _, _, h.symm⟩
  · simp at h
theorem no_slice_sec {s : Sect} {a : Option Addr} {n c : Nat} : Value.slice a n c ∉ cSec s := fun h => by
  unfold cSec at h
  obtain ⟨x, _, e⟩ := List.mem_map.1 h
  unfold byteV at e
  cases e
theorem sec_upd {w w' : World} {c T : Nat} {v : Value} {st : List Sect} {cs : Array Value} (h : Sec w v st) (hx : w.heap[c]? = some (.cells cs T)) (hcs : Slices cs) (h1 : w.heap.size ≤ w'.heap.size) (h2 : ∀ k, k < w.heap.size → k ≠ c → w'.heap[k]? = w.heap[k]?) : Sec w' v st :=
  ⟨h.1, arr_upd h.2 hx (fun i u hu r hr => by
    obtain ⟨a, n, k, rfl⟩ := hcs i u hu
    obtain ⟨s, _, rfl⟩ := List.mem_map.1 hr
    exact no_slice_sec) h1 h2⟩
theorem cas_upd {w w' : World} {c T : Nat} {v : Value} {ca : List Ca} {cs : Array Value} (h : Cas w v ca) (hx : w.heap[c]? = some (.cells cs T)) (hcs : Slices cs) (h1 : w.heap.size ≤ w'.heap.size) (h2 : ∀ k, k < w.heap.size → k ≠ c → w'.heap[k]? = w.heap[k]?) : Cas w' v ca :=
  ⟨h.1, h.2.1, arr_upd h.2.2 hx (fun i u hu r hr => by
    obtain ⟨a, n, k, rfl⟩ := hcs i u hu
    obtain ⟨s, _, rfl⟩ := List.mem_map.1 hr
    intro hm
    rcases List.mem_cons.1 hm with e | hm
    · cases e
    · exact no_slice_sec hm) h1 h2⟩
theorem ints_updG {w w' : World} {c T : Nat} {v : Value} {l : List Int} {cs : Array Value} (h : Ints w v l) (hx : w.heap[c]? = some (.cells cs T)) (hcs : Slices cs) (h1 : w.heap.size ≤ w'.heap.size) (h2 : ∀ k, k < w.heap.size → k ≠ c → w'.heap[k]? = w.heap[k]?) : Ints w' v l :=
  ⟨h.1, h.2.1, arr_upd h.2.2 hx (fun i u hu r hr => by
    obtain ⟨a, n, k, rfl⟩ := hcs i u hu
    obtain ⟨s, _, rfl⟩ := List.mem_map.1 hr
    intro hm
    rw [List.mem_singleton] at hm
    unfold intV at hm
    cases hm) h1 h2⟩
theorem dk_upd {w w' : World} {c T : Nat} {v : Value} {st : List Sect} {ca : List Ca} {cs : Array Value} (h : Dk w v st ca) (hx : w.heap[c]? = some (.cells cs T)) (hcs : Slices cs) (h1 : w.heap.size ≤ w'.heap.size) (h2 : ∀ k, k < w.heap.size → k ≠ c → w'.heap[k]? = w.heap[k]?) : Dk w' v st ca := by
  obtain ⟨sv, cv, rfl, q1, q2, q3⟩ := h
  exact ⟨sv, cv, rfl, sec_upd q1 hx hcs h1 h2, q2, cas_upd q3 hx hcs h1 h2⟩
theorem two_other {X : World} {p k : Nat} (u v : Value) (hk : k ≠ p) : ((X.setCell ⟨p, 0, none⟩ u).setCell ⟨p, 1, none⟩ v).heap[k]? = X.heap[k]? := (Below.heap_setCell _ _ _ _ (show k ≠ p from hk)).trans (Below.heap_setCell _ _ _ _ (show k ≠ p from hk))
def RIntQ (w : World) (r : Int × List Sect × List Ca × List Int) (e : Ending) (w' : World) : Prop := ∃ v u, e = .returned (.tuple #[v, u, .int .i64 r.1]) ∧ Dk w' v r.2.1 r.2.2.1 ∧ Ints w' u r.2.2.2 ∧ Below w.heap.size w w'
set_option maxHeartbeats 8000000 in
set_option maxRecDepth 100000 in
theorem refInterrupt_any (st : List Sect) (ca : List Ca) (sv cv ov lv : Value) (ops : List OpT) (k : Int) (l : List Int) (w : World) (hs : Sec w sv st) (hsn : NilOk sv) (hc : Cas w cv ca) (hops : OpsA w ov ops) (hl : Ints w lv l) (hst : st.length ≤ 1000000) (hca : ca.length + tot ops ≤ 500000) (hll : l.length ≤ 900000000000) (hrk : R64 k) :
    Calls Try.prog 35 #[.agg #[sv, cv], ov, .int .i64 k, lv] w (RIntQ w (interS st ca ops k l)) := by
  obtain ⟨A, c, rfl⟩ := sec_form hs
  obtain ⟨B, d, rfl⟩ := cas_form hc
  obtain ⟨O, oc, rfl⟩ := ops_form hops
  obtain ⟨LA, lc, rfl⟩ := ints_form hl
  obtain ⟨n, hn⟩ : ∃ n, st.length = n := ⟨_, rfl⟩
  obtain ⟨m, hm⟩ : ∃ n, ca.length = n := ⟨_, rfl⟩
  obtain ⟨N, hN⟩ : ∃ n, ops.length = n := ⟨_, rfl⟩
  obtain ⟨M, hM⟩ : ∃ n, l.length = n := ⟨_, rfl⟩
  obtain ⟨_, hNc, hcc⟩ := arr_cap hops.2
  rw [hN] at hops hNc ⊢
  rw [hn] at hs hsn ⊢
  rw [hm] at hc ⊢
  rw [hM] at hl ⊢
  obtain ⟨g, hg⟩ : ∃ g, w.heap.size = g := ⟨_, rfl⟩
  obtain ⟨W1, hW1⟩ : ∃ X, (w.alloc (.cells #[.slice A n c, .slice B m d] 25)).alloc (.cells #[.slice none 0 0, .slice none 0 0] 25) = X := ⟨_, rfl⟩
  have hb1 : Below w.heap.size w W1 := by rw [← hW1]; exact ((Below.refl _ w).alloc (Nat.le_refl _) _).alloc (by simp) _
  have hx1 : W1.heap[g]? = some (.cells #[.slice A n c, .slice B m d] 25) := by rw [← hW1, ← hg]; exact (Below.heap_alloc _ _ _ (by simp)).trans (heap_alloc_new w _)
  have hy1 : W1.heap[g + 1]? = some (.cells #[.slice none 0 0, .slice none 0 0] 25) := by rw [← hW1, ← hg]; simpa using heap_alloc_new (w.alloc (.cells #[.slice A n c, .slice B m d] 25)) (.cells #[.slice none 0 0, .slice none 0 0] 25)
  have hge : w.heap.size ≤ g := Nat.le_of_eq hg
  have hge1 : w.heap.size ≤ g + 1 := by omega
  obtain ⟨k0, hk0⟩ : ∃ k, chkD n ca = k := ⟨_, rfl⟩
  have HCK : Hid (∀ X, Below W1.heap.size W1 X → Calls Try.prog 23 #[.agg #[.slice A n c, .slice B m d]] X fun e w' => e = .returned (.int .i64 k0) ∧ Below X.heap.size X w') := hid (fun X hX => by
    have h := refCheck_any st ca (.slice A n c) (.slice B m d) X (hs.below (hb1.trans (hX.mono hb1.size))) (hc.below (hb1.trans (hX.mono hb1.size)))
    rwa [hn, hk0] at h)
  have HK0 := hid hk0
  have x0 := cell_of_row _ _ 0 _ _ _ hx1
  have x1 := cell_of_row _ _ 1 _ _ _ hx1
  have HX1 := hid hx1
  have HY1 := hid hy1
  have HB1 := hid hb1
  have HW1 := hid hW1
  have HG := hid hg
  have HNN := hid hN
  have HS := hid hs
  have HSN := hid hsn
  have HC := hid hc
  have HOP := hid hops
  have HL := hid hl
  have HLL := hid hll
  have HN := hid hn
  have HM := hid hm
  have HST := hid hst
  have HCA := hid hca
  clear hk0 hs hsn hc hl hn hm hM hb1 hx1 hy1 hW1 hg hN hops hll hst hca
  go_enter Try.func35, Try.ntmps35
  go_upto_region 1 with fail
  rw [HW1.out, HG.out]
  go_upto_region 2 with (go_at_call 23; refine (HCK.out W1 (Below.refl _ _)).mono ?_; rintro e V1 ⟨rfl, hb2⟩)
  clear x0 x1
  have HX1 : Hid (V1.heap[g]? = some (.cells #[.slice A n c, .slice B m d] 25)) := hid ((hb2.block _ (box_lt HX1.out)).trans HX1.out)
  have HY1 : Hid (V1.heap[g + 1]? = some (.cells #[.slice none 0 0, .slice none 0 0] 25)) := hid ((hb2.block _ (box_lt HY1.out)).trans HY1.out)
  have HB1 : Hid (Below w.heap.size w V1) := hid (HB1.out.trans (hb2.mono HB1.out.size))
  clear hb2
  by_cases h0 : k0 = 0
  rotate_left
  · obtain rfl : k0 = 2 := by rw [← HK0.out] at h0 ⊢; exact chkD_two h0
    have dk : ((2 : Int) != 0) = true := rfl
    have HR : Hid (interS st ca ops k l = (2, [], [], [])) := hid (by
      unfold interS
      split
      · rfl
      · have hrs : runS st ca (ops.take k.toNat) = (0, 2, [], []) := by unfold runS; rw [HN.out, HK0.out]; rfl
        rw [hrs]
        rfl)
    have y0 := cell_of_row _ _ 0 _ _ _ HY1.out
    have y1 := cell_of_row _ _ 1 _ _ _ HY1.out
    have f0 := box_fr HY1.out 0
    have f1 := box_fr HY1.out 1
    go_wp2_with fail
    refine bodyPost_ret (results_v2 rfl _ _ (g + 1) _ rfl (disk_load (disk_set HY1.out _ _)) _ rfl _ rfl) rfl ?_
    rw [HR.out]
    exact ⟨_, _, rfl, dk_nil _, ints_none0 _, (HB1.out.setCell hge1 _).setCell hge1 _⟩
  subst h0
  have dk : ((0 : Int) != 0) = false := rfl
  by_cases hbad : k < 0 ∨ (N : Int) < k
  · have HR : Hid (interS st ca ops k l = (2, [], [], [])) := hid (by unfold interS; rw [HNN.out, if_pos hbad])
    have y0 := cell_of_row _ _ 0 _ _ _ HY1.out
    have y1 := cell_of_row _ _ 1 _ _ _ HY1.out
    have f0 := box_fr HY1.out 0
    have f1 := box_fr HY1.out 1
    by_cases h0 : k < 0
    · have d0 : decide (k < 0) = true := decide_eq_true h0
      clear hbad h0
      go_wp2_with fail
      refine bodyPost_ret (results_v2 rfl _ _ (g + 1) _ rfl (disk_load (disk_set HY1.out _ _)) _ rfl _ rfl) rfl ?_
      rw [HR.out]
      exact ⟨_, _, rfl, dk_nil _, ints_none0 _, (HB1.out.setCell hge1 _).setCell hge1 _⟩
    · have d0 : decide (k < 0) = false := decide_eq_false h0
      have d1 : decide ((N : Int) < k) = true := decide_eq_true (by omega)
      clear hbad h0
      go_wp2_with fail
      refine bodyPost_ret (results_v2 rfl _ _ (g + 1) _ rfl (disk_load (disk_set HY1.out _ _)) _ rfl _ rfl) rfl ?_
      rw [HR.out]
      exact ⟨_, _, rfl, dk_nil _, ints_none0 _, (HB1.out.setCell hge1 _).setCell hge1 _⟩
  obtain ⟨q, rfl⟩ : ∃ q : Nat, k = (q : Int) := ⟨k.toNat, by omega⟩
  have hqN : q ≤ N := by omega
  have d0 : decide ((q : Int) < 0) = false := decide_eq_false (by omega)
  have d1 : decide ((N : Int) < (q : Int)) = false := decide_eq_false (by omega)
  have d1' : decide (N < q) = false := decide_eq_false (by omega)
  obtain ⟨r, hr⟩ : ∃ r, runS st ca (ops.take q) = r := ⟨_, rfl⟩
  have hrl := runS_len st ca (ops.take q)
  rw [hr] at hrl
  have HR : Hid (interS st ca ops (q : Int) l = if r.2.1 ≠ 0 then (r.2.1, [], [], []) else (0, crashS r.2.2.1 r.2.2.2 l)) := hid (by unfold interS; rw [HNN.out, if_neg hbad, show ((q : Int)).toNat = q from rfl, hr])
  have HRE : Hid (r.2.1 ≠ 0 → r.2.2 = ([], [])) := hid (fun h => by
    rw [← hr] at h ⊢
    unfold runS at h ⊢
    split at h
    · rename_i h0
      rw [if_pos h0]
      exact exec_err h
    · rename_i h0
      rw [if_neg h0])
  have hsl := fun W => run_slice32 O N oc q (by omega) W
  have HRUN := hid (fun X (hX : Below V1.heap.size V1 X) => (by
    have hw := HB1.out.trans (hX.mono HB1.out.size)
    have h := refRun_any st ca (.slice A n c) (.slice B m d) (.slice O q oc) (ops.take q) X (HS.out.below hw) HSN.out (HC.out.below hw) ((ops_take HOP.out hqN).below hw) (by have := tot_take ops q; have := HCA.out; omega)
    rw [hr] at h
    exact h : Calls Try.prog 30 #[.agg #[.slice A n c, .slice B m d], .slice O q oc] X (RunQ X r)))
  have HLEN : Hid (r.2.2.1.length ≤ 1000000 ∧ r.2.2.2.length ≤ 500000) := hid ⟨Nat.le_trans hrl.1 HST.out, Nat.le_trans hrl.2 (by have := tot_take ops q; have := HCA.out; omega)⟩
  clear hbad hr hrl
  obtain ⟨rn, re, rs, rc⟩ := r
  dsimp only at HLEN
  have HK := hid (fun X (hX : Below V1.heap.size V1 X) => (show X.cell? ⟨g, 0, none⟩ = some (.slice A n c) ∧ X.cell? ⟨g, 1, none⟩ = some (.slice B m d) from ⟨cell_of_row _ _ 0 _ _ _ ((hX.block _ (box_lt HX1.out)).trans HX1.out), cell_of_row _ _ 1 _ _ _ ((hX.block _ (box_lt HX1.out)).trans HX1.out)⟩))
  go_upto_region 6 with fail
  refine region_tail 12 (fun X => X.cell? ⟨g, 0, none⟩ = some (.slice A n c) ∧ X.cell? ⟨g, 1, none⟩ = some (.slice B m d)) (by kernel_rfl) ?_
  obtain ⟨X0, hX0⟩ : ∃ X, V1.drew = X := ⟨_, rfl⟩
  have hB0 : Below V1.heap.size V1 X0 := by rw [← hX0]; exact (Below.refl V1.heap.size V1).drew
  have hHeld := HK.out X0 hB0
  rw [hX0]
  clear hX0
  refine' wpAnyT_take (i := 0) (oi := ?oia0) (v := ?va0) ?hia0 (by kernel_rfl) (by kernel_rfl) ?hqa0 ?hya0 hHeld ?resta0
  case hia0 => (simp only [List.getElem?_toArray, List.getElem?_cons_zero]; rfl)
  case hqa0 => exact fun _ _ _ h => h
  case hya0 => (refine Or.inl ⟨by rfl, ?_⟩; intro w' hSw; (try dsimp only at hSw); go_simp; try with_reducible rfl)
  (try simp only [Act.put, List.setIfInBounds_toArray, List.set_cons_zero, List.set_cons_succ])
  refine' wpAnyT_take (i := 1) (oi := ?oia1) (v := ?va1) ?hia1 (by kernel_rfl) (by kernel_rfl) ?hqa1 ?hya1 hHeld ?resta1
  case hia1 => (simp only [List.getElem?_toArray, List.getElem?_cons_zero, List.getElem?_cons_succ]; rfl)
  case hqa1 => exact fun _ _ _ h => h
  case hya1 => (refine Or.inl ⟨by rfl, ?_⟩; intro w' hSw; (try dsimp only at hSw); go_simp; try with_reducible rfl)
  (try simp only [Act.put, List.setIfInBounds_toArray, List.set_cons_zero, List.set_cons_succ])
  refine' wpAnyT_take (i := 2) (oi := ?oia2) (v := ?va2) ?hia2 (by kernel_rfl) (by kernel_rfl) ?hqa2 ?hya2 hHeld ?resta2
  case hia2 => (simp only [List.getElem?_toArray, List.getElem?_cons_zero, List.getElem?_cons_succ]; rfl)
  case hqa2 => exact fun _ _ _ h => h
  case hya2 => (refine Or.inl ⟨by rfl, ?_⟩; intro w' hSw; (try dsimp only at hSw); go_simp; try with_reducible rfl)
  (try simp only [Act.put, List.setIfInBounds_toArray, List.set_cons_zero, List.set_cons_succ])
  refine' wpAnyT_take (i := 3) (oi := ?oia3) (v := ?va3) ?hia3 (by kernel_rfl) (by kernel_rfl) ?hqa3 ?hya3 hHeld ?resta3
  case hia3 => (simp only [List.getElem?_toArray, List.getElem?_cons_zero, List.getElem?_cons_succ]; rfl)
  case hqa3 => exact fun _ _ _ h => h
  case hya3 => (refine Or.inl ⟨by rfl, ?_⟩; intro w' hSw; (try dsimp only at hSw); go_simp; try with_reducible rfl)
  (try simp only [Act.put, List.setIfInBounds_toArray, List.set_cons_zero, List.set_cons_succ])
  refine wpAnyT_all (l := [4, 9]) (by kernel_rfl) (by decide) ?_
  intro i hi
  simp only [List.mem_cons, List.not_mem_nil, or_false] at hi
  rcases hi with rfl | rfl
  · refine ⟨_, by (simp only [List.getElem?_toArray, List.getElem?_cons_zero, List.getElem?_cons_succ]; rfl), fun K hK => ?_⟩
    go_simp
    go_at_call 30
    refine (HRUN.out X0 hB0).mono ?_
    rintro e X2 ⟨v2, rfl, ⟨⟨sv2, cv2, rfl, h1, h2⟩, h3⟩, hb3⟩
    dsimp only at h1 h2 h3
    obtain ⟨A2, c2, rfl⟩ := ownAny_form h1
    obtain ⟨B2, d2, rfl⟩ := ownAny_form h2
    have HO : Hid (OwnG X2 X0.heap.size rs rc (.agg #[.slice A2 rs.length c2, .slice B2 rc.length d2])) := hid ⟨⟨_, _, rfl, h1, h2⟩, h3⟩
    have hB3 : Below V1.heap.size V1 X2 := hB0.trans (hb3.mono hB0.size)
    have HB3 := hid hB3
    have HX0 : Hid (V1.heap.size ≤ X0.heap.size) := hid hB0.size
    clear hHeld h1 h2 h3 hb3
    have hHeld := HK.out X2 hB3
    refine hK.out _ _ (fun _ => hHeld) ?_
    clear hK K
    refine' wpAnyT_take (i := 5) (oi := ?oib5) (v := ?vb5) ?hib5 (by kernel_rfl) (by kernel_rfl) ?hqb5 ?hyb5 hHeld ?restb5
    case hib5 => (simp only [List.getElem?_toArray, List.getElem?_cons_zero, List.getElem?_cons_succ]; rfl)
    case hqb5 => exact fun _ _ _ h => h
    case hyb5 => (refine Or.inl ⟨by rfl, ?_⟩; intro w' hSw; (try dsimp only at hSw); go_simp; try with_reducible rfl)
    (try simp only [Act.put, List.setIfInBounds_toArray, List.set_cons_zero, List.set_cons_succ])
    refine' wpAnyT_take (i := 6) (oi := ?oib6) (v := ?vb6) ?hib6 (by kernel_rfl) (by kernel_rfl) ?hqb6 ?hyb6 hHeld ?restb6
    case hib6 => (simp only [List.getElem?_toArray, List.getElem?_cons_zero, List.getElem?_cons_succ]; rfl)
    case hqb6 => exact fun _ _ _ h => h
    case hyb6 => (refine Or.inl ⟨by rfl, ?_⟩; intro w' hSw; (try dsimp only at hSw); go_simp; try with_reducible rfl)
    (try simp only [Act.put, List.setIfInBounds_toArray, List.set_cons_zero, List.set_cons_succ])
    refine' wpAnyT_take (i := 7) (oi := ?oib7) (v := ?vb7) ?hib7 (by kernel_rfl) (by kernel_rfl) ?hqb7 ?hyb7 hHeld ?restb7
    case hib7 => (simp only [List.getElem?_toArray, List.getElem?_cons_zero, List.getElem?_cons_succ]; rfl)
    case hqb7 => exact fun _ _ _ h => h
    case hyb7 => (refine Or.inl ⟨by rfl, ?_⟩; intro w' hSw; (try dsimp only at hSw); go_simp; try with_reducible rfl)
    (try simp only [Act.put, List.setIfInBounds_toArray, List.set_cons_zero, List.set_cons_succ])
    refine' wpAnyT_take (i := 8) (oi := ?oib8) (v := ?vb8) ?hib8 (by kernel_rfl) (by kernel_rfl) ?hqb8 ?hyb8 hHeld ?restb8
    case hib8 => (simp only [List.getElem?_toArray, List.getElem?_cons_zero, List.getElem?_cons_succ]; rfl)
    case hqb8 => exact fun _ _ _ h => h
    case hyb8 => (refine Or.inl ⟨by rfl, ?_⟩; intro w' hSw; (try dsimp only at hSw); go_simp; try with_reducible rfl)
    (try simp only [Act.put, List.setIfInBounds_toArray, List.set_cons_zero, List.set_cons_succ])
    refine' wpAnyT_one (i := 9) (o := ?oib9) (by kernel_rfl) ?hib9 (fun K hK => ?stb9)
    case hib9 => (simp only [List.getElem?_toArray, List.getElem?_cons_zero, List.getElem?_cons_succ]; rfl)
    go_simp
    obtain ⟨X3, hX3⟩ : ∃ X, X2.alloc (.cells #[.slice none 0 0, .slice none 0 0] 25) = X := ⟨_, rfl⟩
    obtain ⟨p, hp⟩ : ∃ p, X2.heap.size = p := ⟨_, rfl⟩
    have hb33 : Below X2.heap.size X2 X3 := by rw [← hX3]; exact al1 _ _
    have hp3 : X3.heap[p]? = some (.cells #[.slice none 0 0, .slice none 0 0] 25) := by rw [← hX3, ← hp]; exact heap_alloc_new _ _
    rw [hX3, hp]
    have hB33 : Below V1.heap.size V1 X3 := HB3.out.trans (hb33.mono HB3.out.size)
    have HP3 := hid hp3
    have HO3 := hid (HO.out.keep (B' := V1.heap.size) (keep_below hb33) (keep_below hb33) HX0.out)
    have HB33 := hid hB33
    have h1p : V1.heap.size ≤ p := by rw [← hp]; exact HB3.out.size
    have p0 := cell_of_row _ _ 0 _ _ _ hp3
    have p1 := cell_of_row _ _ 1 _ _ _ hp3
    have fp0 := box_fr hp3 0
    have fp1 := box_fr hp3 1
    clear hHeld hX3 hp hb33 hp3
    have hHeld := HK.out X3 hB33
    refine hK.out _ _ (fun _ => hHeld) ?_
    clear hK K
    (try simp only [Act.put, List.setIfInBounds_toArray, List.set_cons_zero, List.set_cons_succ])
    refine' wpAnyT_one (i := 10) (o := ?oib10) (by kernel_rfl) ?hib10 (fun K hK => ?stb10)
    case hib10 => (simp only [List.getElem?_toArray, List.getElem?_cons_zero, List.getElem?_cons_succ]; rfl)
    go_simp
    obtain ⟨X4, hX4⟩ : ∃ X, (X3.setCell ⟨p, 0, none⟩ (.slice A2 rs.length c2)).setCell ⟨p, 1, none⟩ (.slice B2 rc.length d2) = X := ⟨_, rfl⟩
    rw [hX4]
    have HP4 : Hid (X4.heap[p]? = some (.cells #[.slice A2 rs.length c2, .slice B2 rc.length d2] 25)) := hid (by rw [← hX4]; exact disk_set HP3.out _ _)
    have HO4 := hid (show OwnG X4 V1.heap.size rs rc (.agg #[.slice A2 rs.length c2, .slice B2 rc.length d2]) from by rw [← hX4]; exact HO3.out.keep (keep_two HP3.out (by decide)) (keep_two HP3.out (by decide)) (Nat.le_refl _))
    have HB4 : Hid (Below V1.heap.size V1 X4) := hid (by rw [← hX4]; exact (HB33.out.setCell h1p _).setCell h1p _)
    clear hHeld hX4 p0 p1 fp0 fp1
    have hHeld := HK.out X4 HB4.out
    refine hK.out _ _ (fun _ => hHeld) ?_
    clear hK K
    (try simp only [Act.put, List.setIfInBounds_toArray, List.set_cons_zero, List.set_cons_succ])
    refine' wpAnyT_one (i := 11) (o := ?oib11) (by kernel_rfl) ?hib11 (fun K hK => ?stb11)
    case hib11 => (simp only [List.getElem?_toArray, List.getElem?_cons_zero, List.getElem?_cons_succ]; rfl)
    go_simp
    refine hK.out _ _ (fun _ => hHeld) ?_
    clear hK K
    (try simp only [Act.put, List.setIfInBounds_toArray, List.set_cons_zero, List.set_cons_succ])
    refine' wpAnyT_one (i := 12) (o := ?oib12) (by kernel_rfl) ?hib12 (fun K hK => ?stb12)
    case hib12 => (simp only [List.getElem?_toArray, List.getElem?_cons_zero, List.getElem?_cons_succ]; rfl)
    go_simp
    refine hK.out _ _ (fun h => absurd h (by decide)) ?_
    clear hK K
    (try simp only [Act.put, List.setIfInBounds_toArray, List.set_cons_zero, List.set_cons_succ])
    refine wpAnyT_done (by kernel_rfl) ?_ _
    have HX4 := hid ((HB4.out.block _ (box_lt HX1.out)).trans HX1.out)
    have HY4 := hid ((HB4.out.block _ (box_lt HY1.out)).trans HY1.out)
    by_cases he : re = 0
    rotate_left
    · have de : (re != 0) = true := by simpa using he
      have y0 := cell_of_row _ _ 0 _ _ _ HY4.out
      have y1 := cell_of_row _ _ 1 _ _ _ HY4.out
      have f0 := box_fr HY4.out 0
      have f1 := box_fr HY4.out 1
      go_wp2_with fail
      refine bodyPost_ret (results_v2 rfl _ _ (g + 1) _ rfl (disk_load (disk_set HY4.out _ _)) _ rfl _ rfl) rfl ?_
      rw [HR.out, if_pos he]
      exact ⟨_, _, rfl, dk_nil _, ints_none0 _, ((HB1.out.trans (HB4.out.mono HB1.out.size)).setCell hge1 _).setCell hge1 _⟩
    · subst he
      obtain ⟨sv9, cv9, e9, q1, q2, q3⟩ := HO4.out.dk
      injection e9 with e9
      injection e9 with e9
      injection e9 with e91 e9
      injection e9 with e92 _
      subst e91 e92
      have HCR := hid (refCrash_any rs rc _ _ (.slice LA M lc) l X4 q1 q2 q3 (HL.out.below (HB1.out.trans (HB4.out.mono HB1.out.size))) HLEN.out.2)
      clear q1 q2 q3
      have p0 := cell_of_row _ _ 0 _ _ _ HP4.out
      have p1 := cell_of_row _ _ 1 _ _ _ HP4.out
      obtain ⟨r2, hr2⟩ : ∃ r, crashS rs rc l = r := ⟨_, rfl⟩
      rw [hr2] at HCR
      have HR2 := hid hr2
      obtain ⟨ts, tc, tl⟩ := r2
      clear hr2
      go_upto_region 10 with (go_at_call 32; refine HCR.out.mono ?_; intro e X5 hQ; obtain ⟨A5, c5, B5, d5, U5, uc5, rfl, hd5, hi5, hb5⟩ := rcr_open hQ; have HO5 := hid hd5; have HU5 := hid hi5; have HB5 := hid hb5; clear hQ hd5 hi5 hb5)
      obtain ⟨X6, hX6⟩ : ∃ X, X5.alloc (.cells #[.slice A5 ts.length c5, .slice B5 tc.length d5] 25) = X := ⟨_, rfl⟩
      obtain ⟨h6, hh6⟩ : ∃ h, X5.heap.size = h := ⟨_, rfl⟩
      have hb6 : Below X5.heap.size X5 X6 := by rw [← hX6]; exact al1 _ _
      have hx6 : X6.heap[h6]? = some (.cells #[.slice A5 ts.length c5, .slice B5 tc.length d5] 25) := by rw [← hX6, ← hh6]; exact heap_alloc_new _ _
      have HB6 : Hid (Below V1.heap.size V1 X6) := hid (HB4.out.trans ((HB5.out.trans (hb6.mono HB5.out.size)).mono HB4.out.size))
      have HY6 := hid ((HB6.out.block _ (box_lt HY1.out)).trans HY1.out)
      have HO6 := hid (HO5.out.below hb6)
      have HU6 := hid (HU5.out.below hb6)
      have t0 := cell_of_row _ _ 0 _ _ _ hx6
      have t1 := cell_of_row _ _ 1 _ _ _ hx6
      have y0 := cell_of_row _ _ 0 _ _ _ HY6.out
      have y1 := cell_of_row _ _ 1 _ _ _ HY6.out
      have f0 := box_fr HY6.out 0
      have f1 := box_fr HY6.out 1
      rw [hX6, hh6]
      clear hX6 hh6 hb6 hx6 p0 p1
      go_wp2_with fail
      refine bodyPost_ret (results_v2 rfl _ _ (g + 1) _ rfl (disk_load (disk_set HY6.out _ _)) _ rfl _ rfl) rfl ?_
      rw [HR.out, if_neg (by simp)]
      dsimp only
      rw [HR2.out]
      exact ⟨_, _, rfl, dk_upd HO6.out HY6.out two_slices (by simp [World.setCell]) (fun k _ hk => two_other _ _ hk), ints_updG HU6.out HY6.out two_slices (by simp [World.setCell]) (fun k _ hk => two_other _ _ hk), ((HB1.out.trans (HB6.out.mono HB1.out.size)).setCell hge1 _).setCell hge1 _⟩
  · refine ⟨_, by (simp only [List.getElem?_toArray, List.getElem?_cons_zero, List.getElem?_cons_succ]; rfl), fun K hK => ?_⟩
    go_simp
    obtain ⟨X3, hX3⟩ : ∃ X, X0.alloc (.cells #[.slice none 0 0, .slice none 0 0] 25) = X := ⟨_, rfl⟩
    obtain ⟨p, hp⟩ : ∃ p, X0.heap.size = p := ⟨_, rfl⟩
    have hb33 : Below X0.heap.size X0 X3 := by rw [← hX3]; exact al1 _ _
    have hp3 : X3.heap[p]? = some (.cells #[.slice none 0 0, .slice none 0 0] 25) := by rw [← hX3, ← hp]; exact heap_alloc_new _ _
    rw [hX3, hp]
    have hB33 : Below V1.heap.size V1 X3 := hB0.trans (hb33.mono hB0.size)
    have HP3 := hid hp3
    have HB33 := hid hB33
    have h1p : V1.heap.size ≤ p := by rw [← hp]; exact hB0.size
    clear hHeld hX3 hp hb33 hp3
    have hHeld := HK.out X3 hB33
    refine hK.out _ _ (fun _ => hHeld) ?_
    clear hK K
    (try simp only [Act.put, List.setIfInBounds_toArray, List.set_cons_zero, List.set_cons_succ])
    refine' wpAnyT_one (i := 4) (o := ?oic4) (by kernel_rfl) ?hic4 (fun K hK => ?stc4)
    case hic4 => (simp only [List.getElem?_toArray, List.getElem?_cons_zero, List.getElem?_cons_succ]; rfl)
    go_simp
    go_at_call 30
    refine (HRUN.out X3 HB33.out).mono ?_
    rintro e X5 ⟨v2, rfl, ⟨⟨sv2, cv2, rfl, h1, h2⟩, h3⟩, hb3⟩
    dsimp only at h1 h2 h3
    obtain ⟨A2, c2, rfl⟩ := ownAny_form h1
    obtain ⟨B2, d2, rfl⟩ := ownAny_form h2
    have HO : Hid (OwnG X5 X3.heap.size rs rc (.agg #[.slice A2 rs.length c2, .slice B2 rc.length d2])) := hid ⟨⟨_, _, rfl, h1, h2⟩, h3⟩
    have hB3 : Below V1.heap.size V1 X5 := HB33.out.trans (hb3.mono HB33.out.size)
    have HB3 := hid hB3
    have HX0 : Hid (V1.heap.size ≤ X3.heap.size) := hid HB33.out.size
    have HP5 := hid ((hb3.block _ (box_lt HP3.out)).trans HP3.out)
    have HO5 := hid (HO.out.keep (B' := V1.heap.size) (fun _ _ h => h) (fun _ _ h => h) HX0.out)
    have HB35 := hid hB3
    have p0 := cell_of_row _ _ 0 _ _ _ HP5.out
    have p1 := cell_of_row _ _ 1 _ _ _ HP5.out
    have fp0 := box_fr HP5.out 0
    have fp1 := box_fr HP5.out 1
    clear hHeld h1 h2 h3 hb3
    have hHeld := HK.out X5 hB3
    refine hK.out _ _ (fun _ => hHeld) ?_
    clear hK K
    refine' wpAnyT_take (i := 5) (oi := ?oic5) (v := ?vc5) ?hic5 (by kernel_rfl) (by kernel_rfl) ?hqc5 ?hyc5 hHeld ?restc5
    case hic5 => (simp only [List.getElem?_toArray, List.getElem?_cons_zero, List.getElem?_cons_succ]; rfl)
    case hqc5 => exact fun _ _ _ h => h
    case hyc5 => (refine Or.inl ⟨by rfl, ?_⟩; intro w' hSw; (try dsimp only at hSw); go_simp; try with_reducible rfl)
    (try simp only [Act.put, List.setIfInBounds_toArray, List.set_cons_zero, List.set_cons_succ])
    refine' wpAnyT_take (i := 6) (oi := ?oic6) (v := ?vc6) ?hic6 (by kernel_rfl) (by kernel_rfl) ?hqc6 ?hyc6 hHeld ?restc6
    case hic6 => (simp only [List.getElem?_toArray, List.getElem?_cons_zero, List.getElem?_cons_succ]; rfl)
    case hqc6 => exact fun _ _ _ h => h
    case hyc6 => (refine Or.inl ⟨by rfl, ?_⟩; intro w' hSw; (try dsimp only at hSw); go_simp; try with_reducible rfl)
    (try simp only [Act.put, List.setIfInBounds_toArray, List.set_cons_zero, List.set_cons_succ])
    refine' wpAnyT_take (i := 7) (oi := ?oic7) (v := ?vc7) ?hic7 (by kernel_rfl) (by kernel_rfl) ?hqc7 ?hyc7 hHeld ?restc7
    case hic7 => (simp only [List.getElem?_toArray, List.getElem?_cons_zero, List.getElem?_cons_succ]; rfl)
    case hqc7 => exact fun _ _ _ h => h
    case hyc7 => (refine Or.inl ⟨by rfl, ?_⟩; intro w' hSw; (try dsimp only at hSw); go_simp; try with_reducible rfl)
    (try simp only [Act.put, List.setIfInBounds_toArray, List.set_cons_zero, List.set_cons_succ])
    refine' wpAnyT_take (i := 8) (oi := ?oic8) (v := ?vc8) ?hic8 (by kernel_rfl) (by kernel_rfl) ?hqc8 ?hyc8 hHeld ?restc8
    case hic8 => (simp only [List.getElem?_toArray, List.getElem?_cons_zero, List.getElem?_cons_succ]; rfl)
    case hqc8 => exact fun _ _ _ h => h
    case hyc8 => (refine Or.inl ⟨by rfl, ?_⟩; intro w' hSw; (try dsimp only at hSw); go_simp; try with_reducible rfl)
    (try simp only [Act.put, List.setIfInBounds_toArray, List.set_cons_zero, List.set_cons_succ])
    refine' wpAnyT_one (i := 10) (o := ?oic10) (by kernel_rfl) ?hic10 (fun K hK => ?stc10)
    case hic10 => (simp only [List.getElem?_toArray, List.getElem?_cons_zero, List.getElem?_cons_succ]; rfl)
    go_simp
    obtain ⟨X4, hX4⟩ : ∃ X, (X5.setCell ⟨p, 0, none⟩ (.slice A2 rs.length c2)).setCell ⟨p, 1, none⟩ (.slice B2 rc.length d2) = X := ⟨_, rfl⟩
    rw [hX4]
    have HP4 : Hid (X4.heap[p]? = some (.cells #[.slice A2 rs.length c2, .slice B2 rc.length d2] 25)) := hid (by rw [← hX4]; exact disk_set HP5.out _ _)
    have HO4 := hid (show OwnG X4 V1.heap.size rs rc (.agg #[.slice A2 rs.length c2, .slice B2 rc.length d2]) from by rw [← hX4]; exact HO5.out.keep (keep_two HP5.out (by decide)) (keep_two HP5.out (by decide)) (Nat.le_refl _))
    have HB4 : Hid (Below V1.heap.size V1 X4) := hid (by rw [← hX4]; exact (HB35.out.setCell h1p _).setCell h1p _)
    clear hHeld hX4 p0 p1 fp0 fp1
    have hHeld := HK.out X4 HB4.out
    refine hK.out _ _ (fun _ => hHeld) ?_
    clear hK K
    (try simp only [Act.put, List.setIfInBounds_toArray, List.set_cons_zero, List.set_cons_succ])
    refine' wpAnyT_one (i := 11) (o := ?oic11) (by kernel_rfl) ?hic11 (fun K hK => ?stc11)
    case hic11 => (simp only [List.getElem?_toArray, List.getElem?_cons_zero, List.getElem?_cons_succ]; rfl)
    go_simp
    refine hK.out _ _ (fun _ => hHeld) ?_
    clear hK K
    (try simp only [Act.put, List.setIfInBounds_toArray, List.set_cons_zero, List.set_cons_succ])
    refine' wpAnyT_one (i := 12) (o := ?oic12) (by kernel_rfl) ?hic12 (fun K hK => ?stc12)
    case hic12 => (simp only [List.getElem?_toArray, List.getElem?_cons_zero, List.getElem?_cons_succ]; rfl)
    go_simp
    refine hK.out _ _ (fun h => absurd h (by decide)) ?_
    clear hK K
    (try simp only [Act.put, List.setIfInBounds_toArray, List.set_cons_zero, List.set_cons_succ])
    refine wpAnyT_done (by kernel_rfl) ?_ _
    have HX4 := hid ((HB4.out.block _ (box_lt HX1.out)).trans HX1.out)
    have HY4 := hid ((HB4.out.block _ (box_lt HY1.out)).trans HY1.out)
    by_cases he : re = 0
    rotate_left
    · have de : (re != 0) = true := by simpa using he
      have y0 := cell_of_row _ _ 0 _ _ _ HY4.out
      have y1 := cell_of_row _ _ 1 _ _ _ HY4.out
      have f0 := box_fr HY4.out 0
      have f1 := box_fr HY4.out 1
      go_wp2_with fail
      refine bodyPost_ret (results_v2 rfl _ _ (g + 1) _ rfl (disk_load (disk_set HY4.out _ _)) _ rfl _ rfl) rfl ?_
      rw [HR.out, if_pos he]
      exact ⟨_, _, rfl, dk_nil _, ints_none0 _, ((HB1.out.trans (HB4.out.mono HB1.out.size)).setCell hge1 _).setCell hge1 _⟩
    · subst he
      obtain ⟨sv9, cv9, e9, q1, q2, q3⟩ := HO4.out.dk
      injection e9 with e9
      injection e9 with e9
      injection e9 with e91 e9
      injection e9 with e92 _
      subst e91 e92
      have HCR := hid (refCrash_any rs rc _ _ (.slice LA M lc) l X4 q1 q2 q3 (HL.out.below (HB1.out.trans (HB4.out.mono HB1.out.size))) HLEN.out.2)
      clear q1 q2 q3
      have p0 := cell_of_row _ _ 0 _ _ _ HP4.out
      have p1 := cell_of_row _ _ 1 _ _ _ HP4.out
      obtain ⟨r2, hr2⟩ : ∃ r, crashS rs rc l = r := ⟨_, rfl⟩
      rw [hr2] at HCR
      have HR2 := hid hr2
      obtain ⟨ts, tc, tl⟩ := r2
      clear hr2
      go_upto_region 10 with (go_at_call 32; refine HCR.out.mono ?_; intro e X5 hQ; obtain ⟨A5, c5, B5, d5, U5, uc5, rfl, hd5, hi5, hb5⟩ := rcr_open hQ; have HO5 := hid hd5; have HU5 := hid hi5; have HB5 := hid hb5; clear hQ hd5 hi5 hb5)
      obtain ⟨X6, hX6⟩ : ∃ X, X5.alloc (.cells #[.slice A5 ts.length c5, .slice B5 tc.length d5] 25) = X := ⟨_, rfl⟩
      obtain ⟨h6, hh6⟩ : ∃ h, X5.heap.size = h := ⟨_, rfl⟩
      have hb6 : Below X5.heap.size X5 X6 := by rw [← hX6]; exact al1 _ _
      have hx6 : X6.heap[h6]? = some (.cells #[.slice A5 ts.length c5, .slice B5 tc.length d5] 25) := by rw [← hX6, ← hh6]; exact heap_alloc_new _ _
      have HB6 : Hid (Below V1.heap.size V1 X6) := hid (HB4.out.trans ((HB5.out.trans (hb6.mono HB5.out.size)).mono HB4.out.size))
      have HY6 := hid ((HB6.out.block _ (box_lt HY1.out)).trans HY1.out)
      have HO6 := hid (HO5.out.below hb6)
      have HU6 := hid (HU5.out.below hb6)
      have t0 := cell_of_row _ _ 0 _ _ _ hx6
      have t1 := cell_of_row _ _ 1 _ _ _ hx6
      have y0 := cell_of_row _ _ 0 _ _ _ HY6.out
      have y1 := cell_of_row _ _ 1 _ _ _ HY6.out
      have f0 := box_fr HY6.out 0
      have f1 := box_fr HY6.out 1
      rw [hX6, hh6]
      clear hX6 hh6 hb6 hx6 p0 p1
      go_wp2_with fail
      refine bodyPost_ret (results_v2 rfl _ _ (g + 1) _ rfl (disk_load (disk_set HY6.out _ _)) _ rfl _ rfl) rfl ?_
      rw [HR.out, if_neg (by simp)]
      dsimp only
      rw [HR2.out]
      exact ⟨_, _, rfl, dk_upd HO6.out HY6.out two_slices (by simp [World.setCell]) (fun k _ hk => two_other _ _ hk), ints_updG HU6.out HY6.out two_slices (by simp [World.setCell]) (fun k _ hk => two_other _ _ hk), ((HB1.out.trans (HB6.out.mono HB1.out.size)).setCell hge1 _).setCell hge1 _⟩
end Go.Proofs.Ytoefbgkeinhibaa
