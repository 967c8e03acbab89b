/- The reference's Unsynced. -/
import Derived.Test.YtoefbgkeinhibaaXJ
namespace Go.Proofs.Ytoefbgkeinhibaa
open Go.RowKit Go.Lib

theorem falsesN_get (n i : Nat) (hi : i < n) : (madeCells #[Value.bool false] n)[i]? = some (.bool false) := by
  have h := toList_madeCells_one (.bool false) n
  have : (madeCells #[Value.bool false] n)[i]? = (madeCells #[Value.bool false] n).toList[i]? := by simp
  rw [this, h, List.getElem?_replicate, if_pos hi]
theorem make94 (W : World) (n : Nat) (hn : n ≤ 1000000) : (Instr.makeSlice 94 (.int .i64 n) (.int .i64 n)).run Try.prog W = .ok (.slice (some ⟨W.heap.size, 0, none⟩) n n) (W.alloc (.cells (madeCells #[.bool false] n) 4)) := by
  have hinf : (Try.prog.info? 4).map (fun i => (i.zero, i.size, i.bytes)) = some (some (.bool false), 1, 1) := by kernel_rfl
  obtain ⟨i0, hi, hz0, hz1, hz2⟩ := info_parts hinf
  have h := run_make (P := Try.prog) W 94 4 i0 (.bool false) Try.underlying94 hi hz0 .i64 .i64 (n : Int) (n : Int) (by omega) (by omega) (by rw [hz2]; omega) (by omega)
  rw [hz1, Int.toNat_natCast, Nat.mul_one] at h
  exact h
theorem mk_new (W : World) (n : Nat) : Xt.Mk n (W.alloc (.cells (madeCells #[.bool false] n) 4)) W.heap.size (fun _ => false) :=
  ⟨_, heap_alloc_new W _, size_madeCells _ _, fun i hi => falsesN_get n i hi⟩
theorem g_take_succ {ca : List Ca} {q : Nat} {c : Ca} (h : ca[q]? = some c) (x : Int) : (!(G (ca.take (q + 1)) x).isEmpty) = if x = c.1 then true else !(G (ca.take q) x).isEmpty := by
  rw [show ca.take (q + 1) = ca.take q ++ [c] from by rw [List.take_add_one, h]; rfl, g_snoc]
  by_cases e : x = c.1
  · rw [if_pos e, if_pos e.symm]
    simp
  · rw [if_neg e, if_neg (fun h => e h.symm), List.append_nil]
set_option maxHeartbeats 4000000 in
set_option maxRecDepth 100000 in
theorem refUnsynced_any (st : List Sect) (ca : List Ca) (sv cv : Value) (w : World) (hs : Sec w sv st) (hc : Cas w cv ca) (hca : ca.length ≤ 500000) :
    Calls Try.prog 28 #[.agg #[sv, cv]] w (UnsQ st.length ca w) := by
  obtain ⟨A, c, rfl⟩ := sec_form hs
  obtain ⟨B, d, rfl⟩ := cas_form hc
  obtain ⟨n, hn⟩ : ∃ n, st.length = n := ⟨_, rfl⟩
  obtain ⟨m, hm⟩ : ∃ n, ca.length = n := ⟨_, rfl⟩
  rw [hn] at hs ⊢
  rw [hm] at hc hca ⊢
  obtain ⟨g, hg⟩ : ∃ g, w.heap.size = g := ⟨_, rfl⟩
  obtain ⟨W1, hW1⟩ : ∃ X, w.alloc (.cells #[.slice A n c, .slice B m d] 25) = X := ⟨_, rfl⟩
  have hb1 : Below w.heap.size w W1 := by rw [← hW1]; exact al1 _ _
  have hx1 : W1.heap[g]? = some (.cells #[.slice A n c, .slice B m d] 25) := by rw [← hW1, ← hg]; exact heap_alloc_new _ _
  obtain ⟨k0, hk0⟩ : ∃ k, chkD n ca = k := ⟨_, rfl⟩
  have HCK := hid (show Calls Try.prog 23 #[.agg #[.slice A n c, .slice B m d]] W1 fun e w' => e = .returned (.int .i64 k0) ∧ Below W1.heap.size W1 w' from by
    have h := refCheck_any st ca (.slice A n c) (.slice B m d) W1 (hs.below hb1) (hc.below hb1)
    rwa [hn, hk0] at h)
  have HC := hid hc
  have HX1 := hid hx1
  have HB1 := hid hb1
  have HW1 := hid hW1
  have HG := hid hg
  have HM := hid hm
  have HK0 := hid hk0
  have x0 := cell_of_row _ _ 0 _ _ _ hx1
  have x1 := cell_of_row _ _ 1 _ _ _ hx1
  clear hs hc hn hm hb1 hx1 hW1 hg hk0
  go_enter Try.func28, Try.ntmps28
  go_upto_region 1 with fail
  rw [HW1.out, HG.out]
  by_cases h0 : k0 = 0
  rotate_left
  · have dk : (k0 != 0) = true := by rw [bne_iff_ne]; exact h0
    have HNE := hid (show chkD n ca ≠ 0 by rw [HK0.out]; exact h0)
    go_wp2_with (go_at_call 23; refine HCK.out.mono ?_; rintro e X1 ⟨rfl, hb2⟩; have HB2 := hid hb2; clear hb2)
    go_ret
    exact unsQ_none HNE.out (below_both HB1.out HB2.out)
  subst h0
  have dk : ((0 : Int) != 0) = false := rfl
  obtain ⟨hn4, hkC⟩ := chkD_C HK0.out
  have HKC := hid hkC
  clear hkC
  go_upto_region 3 with (go_at_call 23; refine HCK.out.mono ?_; rintro e X1 ⟨rfl, hb2⟩; have HB2 := hid hb2; clear hb2)
  have hgx := (HB2.out.block _ (box_lt HX1.out)).trans HX1.out
  have z0 := cell_of_row _ _ 0 _ _ _ hgx
  have HGX := hid hgx
  have hmk := fun W => make94 W n (by omega)
  clear x0 x1 hgx
  go_upto_region 4 with fail
  obtain ⟨W5, hW5⟩ : ∃ X, X1.alloc (.cells (madeCells #[.bool false] n) 4) = X := ⟨_, rfl⟩
  obtain ⟨h, hh⟩ : ∃ h, X1.heap.size = h := ⟨_, rfl⟩
  rw [hW5, hh]
  have HMK : Hid (Xt.Mk n W5 h (fun _ => false)) := hid (by rw [← hW5, ← hh]; exact mk_new X1 n)
  have HB5 : Hid (Below X1.heap.size X1 W5) := hid (by rw [← hW5]; exact al1 _ _)
  have HHH := hid hh
  have HBX : Hid (Below w.heap.size w X1) := hid (below_both HB1.out HB2.out)
  clear z0 hW5 hh hmk
  go_upto_region 5 with fail
  go_loopw [4] (fun iv wr => ∃ q : Nat, q ≤ m ∧ iv = .int .i64 (q : Int) ∧ Hid (Xt.Mk n wr h (fun x => !(G (ca.take q) x).isEmpty)) ∧ Hid (Below X1.heap.size X1 wr)) (fun i _ => m - (Go.RowKit.intOf i).toNat)
  case atStart => exact ⟨0, Nat.zero_le _, rfl, hid (HMK.out.congr (fun i _ => rfl)), HB5⟩
  case round =>
    obtain ⟨q, hq, rfl, HK, HB⟩ := hrel
    have u1 := cell_of_row _ _ 1 _ _ _ ((HB.out.block _ (box_lt HGX.out)).trans HGX.out)
    by_cases hqm : q < m
    · have e1 : decide ((q : Int) < (m : Int)) = true := decide_eq_true (by omega)
      have hqm' : (q : Int) < (m : Int) := by omega
      obtain ⟨b, off, rfl, hb, hcc⟩ := cas_cells HC.out (by rw [HM.out]; omega)
      obtain ⟨x, hx⟩ : ∃ x, ca[q]? = some x := ⟨ca[q]'(by rw [HM.out]; exact hqm), List.getElem?_eq_getElem _⟩
      have HBw : Hid (Below w.heap.size w wr) := hid (below_both HBX.out HB.out)
      have hbw : wr.heap[b]? = w.heap[b]? := HBw.out.block b hb
      have hne : G ca x.1 ≠ [] := fun e => by
        have h1 : x.2 ∈ G ca x.1 := by
          unfold G
          exact List.mem_map.2 ⟨x, List.mem_filter.2 ⟨List.mem_of_getElem? hx, by simp⟩, rfl⟩
        rw [e] at h1
        cases h1
      obtain ⟨r0, r1⟩ := ca_key HKC.out hne
      have HGT := hid (fun y => g_take_succ hx y)
      obtain ⟨a, s⟩ := x
      dsimp only at r0 r1 HGT
      obtain ⟨j, rfl⟩ : ∃ j : Nat, a = (j : Int) := ⟨a.toNat, by omega⟩
      have hjn : j < n := by omega
      have k0 : wr.cell? ⟨b, off + q * 9, none⟩ = some (.int .i64 (j : Int)) := by
        have h := hcc q _ hx 0 (.int .i64 (j : Int)) rfl
        rw [Nat.add_zero] at h
        unfold World.cell? at h ⊢
        rw [hbw]
        exact h
      have x1 := HK.out.cell hjn
      have x2 := HK.out.frozen j
      have HS := hid (HK.out.set hjn true)
      have hhl := HK.out.lt
      clear hcc hx hbw hne
      go_wp2_with fail
      go_roundw
      case rel => exact ⟨q + 1, by omega, by go_num, hid (HS.out.congr (fun i _ => (HGT.out (i : Int)).symm)), hid (HB.out.setCell (Nat.le_of_eq HHH.out) _)⟩
      case measure => simp [Go.RowKit.intOf]; omega
    · obtain rfl : m = q := by omega
      have e1 : decide ((m : Int) < (m : Int)) = false := decide_eq_false (by omega)
      have HTA := hid (show ca.take m = ca from List.take_of_length_le (by rw [HM.out]; exact Nat.le_refl _))
      rw [HTA.out] at HK
      have HLS := hid (Xt.list_any h n n _ wr HK.out hn4 (Nat.le_refl _) hn4)
      have HN4 := hid hn4
      go_wp2_with (go_at_call 50; refine HLS.out.mono ?_; rintro e X9 ⟨v9, l9, rfl, hcan, hmem, hex, hb9⟩; have HR9 := hid (show Xt.Canon 0 l9 ∧ (∀ x, Xt.mem l9 x = (decide (0 ≤ x ∧ x < (n : Int)) && !(G ca x).isEmpty)) ∧ Xt.Ext X9 v9 l9 ∧ Below wr.heap.size wr X9 from ⟨hcan, hmem, hex, hb9⟩); clear hcan hmem hex hb9)
      go_ret
      obtain ⟨r1, r2, r3, r4⟩ := HR9.out
      refine ⟨_, l9, rfl, r1, fun x => ?_, r3, below_both HBX.out (below_both HB.out r4)⟩
      rw [r2 x]
      unfold setU
      rw [HK0.out]
      by_cases hge : G ca x = []
      · rw [hge]
        simp
      · have hr := ca_key HKC.out hge
        rw [decide_eq_true hr]
        rfl
end Go.Proofs.Ytoefbgkeinhibaa
