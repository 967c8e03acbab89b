/- The reference's Write; Few. -/
import Derived.Test.YtoefbgkeinhibaaRc
namespace Go.Proofs.Ytoefbgkeinhibaa
open Go.RowKit Go.Lib

set_option maxHeartbeats 8000000 in
set_option maxRecDepth 100000 in
theorem refWrite_any (st : List Sect) (ca : List Ca) (sv cv : Value) (at_ : Int) (dv : Value) (data : List Sect) (w : World) (hs : Sec w sv st) (hsn : NilOk sv) (hc : Cas w cv ca) (hdat : Sec w dv data) (hr : R64 at_) (hca : ca.length ≤ 500000) :
    Calls Try.prog 15 #[.agg #[sv, cv], .int .i64 at_, dv] w (WrQ w (wrS st ca at_ data)) := by
  obtain ⟨i0, hi, hz0, hz1, hz2⟩ := info_parts info77
  obtain ⟨A, c, rfl⟩ := sec_form hs
  obtain ⟨B0, d, rfl⟩ := cas_form hc
  obtain ⟨dA, dc, rfl⟩ := sec_form hdat
  have HSC : Hid (Secs st ∧ CasL ca) := hid ⟨hs.1, hc.1⟩
  obtain ⟨n, hn⟩ : ∃ n, st.length = n := ⟨_, rfl⟩
  obtain ⟨N, hN⟩ : ∃ n, ca.length = n := ⟨_, rfl⟩
  obtain ⟨m, hm⟩ : ∃ n, data.length = n := ⟨_, rfl⟩
  have hmm : m ≤ 9223372036854775807 := by
    obtain ⟨h4, h5, h6⟩ := arr_cap hdat.2
    rw [List.length_map] at h4
    omega
  rw [hn] at hs hsn ⊢
  rw [hN] at hc hca ⊢
  rw [hm] at hdat ⊢
  obtain ⟨hr0, hr1⟩ := hr
  obtain ⟨g, hg⟩ : ∃ g, w.heap.size = g := ⟨_, rfl⟩
  obtain ⟨W1, hW1⟩ : ∃ X, (w.alloc (.cells #[.slice A n c, .slice B0 N d] 25)).alloc (.cells #[.slice none 0 0, .slice none 0 0] 25) = X := ⟨_, rfl⟩
  have hb1 : Below w.heap.size w W1 := by rw [← hW1]; exact ((Below.refl _ w).alloc (Nat.le_refl _) _).alloc (by simp) _
  have hx1 : W1.heap[g]? = some (.cells #[.slice A n c, .slice B0 N d] 25) := by rw [← hW1, ← hg]; exact (Below.heap_alloc _ _ _ (by simp)).trans (heap_alloc_new w _)
  have hy1 : W1.heap[g + 1]? = some (.cells #[.slice none 0 0, .slice none 0 0] 25) := by rw [← hW1, ← hg]; simpa using heap_alloc_new (w.alloc (.cells #[.slice A n c, .slice B0 N d] 25)) (.cells #[.slice none 0 0, .slice none 0 0] 25)
  have hge : w.heap.size ≤ g := Nat.le_of_eq hg
  have hge1 : w.heap.size ≤ g + 1 := by omega
  obtain ⟨k0, hk0⟩ : ∃ k, chkD n ca = k := ⟨_, rfl⟩
  have HCK : Hid (∀ X, Below W1.heap.size W1 X → Calls Try.prog 23 #[.agg #[.slice A n c, .slice B0 N d]] X fun e w' => e = .returned (.int .i64 k0) ∧ Below X.heap.size X w') := hid (fun X hX => by
    have h := refCheck_any st ca (.slice A n c) (.slice B0 N d) X (hs.below (hb1.trans (hX.mono hb1.size))) (hc.below (hb1.trans (hX.mono hb1.size)))
    rwa [hn, hk0] at h)
  have HCP : Hid (∀ X, Below W1.heap.size W1 X → n ≤ 1000000 → Calls Try.prog 42 #[.agg #[.slice A n c, .slice B0 N d]] X (DiskQ X st ca)) := hid (fun X hX hl => refCopy_any st ca (.slice A n c) (.slice B0 N d) X (hs.below (hb1.trans (hX.mono hb1.size))) hsn (hc.below (hb1.trans (hX.mono hb1.size))) (by rw [hn]; exact hl) (by rw [hN]; omega))
  have HDT := hid hdat
  have HDS := hid hdat.1
  have HX1 := hid hx1
  have HY1 := hid hy1
  have HB1 := hid hb1
  have HW1 := hid hW1
  have HG := hid hg
  have HN := hid hn
  have HM := hid hN
  have HD := hid hm
  have HK0 := hid hk0
  have x0 := cell_of_row _ _ 0 _ _ _ hx1
  have x1 := cell_of_row _ _ 1 _ _ _ hx1
  clear hs hc hdat hsn hn hN hm hb1 hx1 hy1 hW1 hg hk0
  by_cases h0 : k0 = 0
  rotate_left
  · obtain rfl : k0 = 2 := by rw [← HK0.out] at h0 ⊢; exact chkD_two h0
    have HR : Hid (wrS st ca at_ data = (0, 2, [], [])) := hid (by unfold wrS; rw [HN.out, if_neg (by rw [HK0.out]; exact h0)])
    go_enter Try.func15, Try.ntmps15
    go_upto_region 1 with fail
    rw [HW1.out, HG.out]
    go_upto_region 2 with (go_at_call 23; refine (HCK.out W1 (Below.refl _ _)).mono ?_; rintro e X1 ⟨rfl, hb2⟩)
    have HY2 := hid ((hb2.block _ (box_lt HY1.out)).trans HY1.out)
    have HB2 := hid (HB1.out.trans (hb2.mono HB1.out.size))
    have y0 := cell_of_row _ _ 0 _ _ _ HY2.out
    have y1 := cell_of_row _ _ 1 _ _ _ HY2.out
    have f0 := box_fr HY2.out 0
    have f1 := box_fr HY2.out 1
    clear hb2 x0 x1
    go_wp2_with fail
    refine bodyPost_ret (results_v1 rfl _ _ (g + 1) _ rfl (disk_load (disk_set HY2.out _ _)) _ rfl) rfl ?_
    rw [HR.out]
    exact ⟨_, rfl, own_nil _ _, (HB2.out.setCell hge1 _).setCell hge1 _⟩
  subst h0
  obtain ⟨hn4, hkC⟩ := chkD_C HK0.out
  by_cases hbad : insB n at_ m = false
  · have HR : Hid (wrS st ca at_ data = (0, 2, [], [])) := hid (by unfold wrS; rw [HN.out, if_pos HK0.out, HD.out, if_neg (by rw [hbad]; decide)])
    have hb := of_decide_eq_false hbad
    clear hbad
    go_enter Try.func15, Try.ntmps15
    go_upto_region 1 with fail
    rw [HW1.out, HG.out]
    go_upto_region 4 with (go_at_call 23; refine (HCK.out W1 (Below.refl _ _)).mono ?_; rintro e X1 ⟨rfl, hb2⟩)
    have HY2 := hid ((hb2.block _ (box_lt HY1.out)).trans HY1.out)
    have HB2 := hid (HB1.out.trans (hb2.mono HB1.out.size))
    have hx2 := (hb2.block _ (box_lt HX1.out)).trans HX1.out
    have z0 := cell_of_row _ _ 0 _ _ _ hx2
    have y0 := cell_of_row _ _ 0 _ _ _ HY2.out
    have y1 := cell_of_row _ _ 1 _ _ _ HY2.out
    have f0 := box_fr HY2.out 0
    have f1 := box_fr HY2.out 1
    clear hb2 x0 x1 hx2
    have hw1 : IntKind.i64.wrap ((n : Int) - (m : Int)) = (n : Int) - (m : Int) := by rw [IntKind.wrap_i64]; omega
    obtain ⟨qq, hqq⟩ : ∃ qq, (n : Int) - (m : Int) = qq := ⟨_, rfl⟩
    rw [hqq] at hw1
    have hw2 : IntKind.i64.wrap qq = qq := hw1
    by_cases ha0 : at_ < 0
    · have d0 : decide (at_ < 0) = true := decide_eq_true ha0
      clear hb
      go_wp2_with fail
      refine bodyPost_ret (results_v1 rfl _ _ (g + 1) _ rfl (disk_load (disk_set HY2.out _ _)) _ rfl) rfl ?_
      rw [HR.out]
      exact ⟨_, rfl, own_nil _ _, (HB2.out.setCell hge1 _).setCell hge1 _⟩
    have d0 : decide (at_ < 0) = false := decide_eq_false ha0
    by_cases ha1 : n < m
    · have d1 : decide (n < m) = true := decide_eq_true ha1
      have d1' : decide ((n : Int) < (m : Int)) = true := decide_eq_true (by omega)
      clear hb
      go_wp2_with fail
      refine bodyPost_ret (results_v1 rfl _ _ (g + 1) _ rfl (disk_load (disk_set HY2.out _ _)) _ rfl) rfl ?_
      rw [HR.out]
      exact ⟨_, rfl, own_nil _ _, (HB2.out.setCell hge1 _).setCell hge1 _⟩
    have d1 : decide (n < m) = false := decide_eq_false ha1
    have d1' : decide ((n : Int) < (m : Int)) = false := decide_eq_false (by omega)
    have d2 : decide (qq < at_) = true := decide_eq_true (by omega)
    clear hb
    go_wp2_with fail
    refine bodyPost_ret (results_v1 rfl _ _ (g + 1) _ rfl (disk_load (disk_set HY2.out _ _)) _ rfl) rfl ?_
    rw [HR.out]
    exact ⟨_, rfl, own_nil _ _, (HB2.out.setCell hge1 _).setCell hge1 _⟩
  · have hins : insB n at_ m = true := by simpa using hbad
    have HR : Hid (wrS st ca at_ data = (1, 0, st, ca ++ putL at_ data)) := hid (by unfold wrS; rw [HN.out, if_pos HK0.out, HD.out, if_pos hins])
    obtain ⟨ha0, hm0, ham⟩ := of_decide_eq_true hins
    have d0 : decide (at_ < 0) = false := decide_eq_false (by omega)
    have d1 : decide (n < m) = false := decide_eq_false (by omega)
    have d1' : decide ((n : Int) < (m : Int)) = false := decide_eq_false (by omega)
    have hw1 : IntKind.i64.wrap ((n : Int) - (m : Int)) = (n : Int) - (m : Int) := by rw [IntKind.wrap_i64]; omega
    obtain ⟨qq, hqq⟩ : ∃ qq, (n : Int) - (m : Int) = qq := ⟨_, rfl⟩
    have d2 : decide (qq < at_) = false := decide_eq_false (by omega)
    have HQQ := hid hqq
    rw [hqq] at hw1
    clear hbad hins hqq
    go_enter Try.func15, Try.ntmps15
    go_upto_region 1 with fail
    rw [HW1.out, HG.out]
    go_upto_region 4 with (go_at_call 23; refine (HCK.out W1 (Below.refl _ _)).mono ?_; rintro e X1 ⟨rfl, hb2⟩)
    have HBb := hid hb2
    have hx2 := (hb2.block _ (box_lt HX1.out)).trans HX1.out
    have z0 := cell_of_row _ _ 0 _ _ _ hx2
    have z1 := cell_of_row _ _ 1 _ _ _ hx2
    clear hb2 x0 x1 hx2
    go_upto_region 6 with fail
    go_upto_region 7 with (go_at_call 42; refine (HCP.out X1 HBb.out (by omega)).mono ?_; rintro e X2 ⟨v2, rfl, ⟨sv2, cv2, rfl, ho1, ho2⟩, hb3⟩; obtain ⟨A2, c2, rfl⟩ := ownAny_form ho1; obtain ⟨C2, d2, rfl⟩ := ownAny_form ho2; have HO1 := hid ho1; have HO2 := hid ho2; have HB3 := hid hb3; clear ho1 ho2 hb3)
    obtain ⟨W4, hW4⟩ : ∃ X, X2.alloc (.cells #[.slice A2 st.length c2, .slice C2 ca.length d2] 25) = X := ⟨_, rfl⟩
    obtain ⟨p, hp⟩ : ∃ p, X2.heap.size = p := ⟨_, rfl⟩
    rw [hW4, hp]
    have hb4 : Below X2.heap.size X2 W4 := by rw [← hW4]; exact al1 _ _
    obtain ⟨B, hB⟩ : ∃ B, X1.heap.size = B := ⟨_, rfl⟩
    have HDB : Hid (DB W4 B p st ca (.slice A2 st.length c2) (.slice C2 ca.length d2)) := hid ⟨by rw [← hW4, ← hp]; exact heap_alloc_new _ _, by rw [← hB]; exact own_keep HO1.out (keep_below hb4), by rw [← hB]; exact own_keep HO2.out (keep_below hb4), HSC.out.1, HSC.out.2⟩
    have HB4 : Hid (Below B X1 W4) := hid (by rw [← hB]; exact HB3.out.trans (hb4.mono HB3.out.size))
    have hBp : B ≤ p := by rw [← hp, ← hB]; exact HB3.out.size
    have hB4 : B ≤ W4.heap.size := by rw [← hB]; exact HB4.out.size
    have h1B : W1.heap.size ≤ B := by rw [← hB]; exact HBb.out.size
    have HB14 : Hid (Below W1.heap.size W1 W4) := hid (HBb.out.trans (HB4.out.mono h1B))
    have HN' := hid (show (Value.slice A2 st.length c2) = .slice A2 n c2 from by rw [HN.out])
    rw [HN.out, HM.out] at HDB
    clear hW4 hp hb4 hB z0 z1
    rw [HN.out, HM.out]
    go_upto_region 8 with fail
    go_loopw [10] (fun iv wr => ∃ q : Nat, q ≤ m ∧ iv = .int .i64 (q : Int) ∧ Hid (∃ C d, DB wr B p st (ca ++ putL at_ (data.take q)) (.slice A2 n c2) (.slice C (N + q) d)) ∧ Hid (Below B W4 wr)) (fun i _ => m - (Go.RowKit.intOf i).toNat)
    case atStart => exact ⟨0, Nat.zero_le _, rfl, hid ⟨C2, d2, by simpa [putL] using HDB.out⟩, hid (Below.refl _ _)⟩
    case round =>
      obtain ⟨q, hq, rfl, HX, HB⟩ := hrel
      obtain ⟨C, d2, hdb⟩ := HX.out
      have hwr : B ≤ wr.heap.size := Nat.le_trans hB4 HB.out.size
      have HBw1 : Hid (Below W1.heap.size W1 wr) := hid (HB14.out.trans (HB.out.mono h1B))
      by_cases hqn : q < m
      · have hqn' : (q : Int) < (m : Int) := by omega
        have e1 : decide ((q : Int) < (m : Int)) = true := decide_eq_true hqn'
        obtain ⟨b, off, rfl, hbl, hcc⟩ := arr_at1 HDT.out.2 (by rw [List.length_map, HD.out]; omega)
        have hbB : b < B := Nat.lt_of_lt_of_le (Nat.lt_of_lt_of_le hbl HB1.out.size) h1B
        have hbw : wr.heap[b]? = w.heap[b]? := (HBw1.out.block b (Nat.lt_of_lt_of_le hbl HB1.out.size)).trans (HB1.out.block b hbl)
        obtain ⟨s, hs⟩ : ∃ s, data[q]? = some s := ⟨data[q]'(by rw [HD.out]; exact hqn), List.getElem?_eq_getElem _⟩
        have h8 := HDS.out s (List.mem_of_getElem? hs)
        have hrow : (data.map cSec)[q]? = some (cSec s) := by rw [List.getElem?_map, hs]; rfl
        have HTK := hid (show data.take (q + 1) = data.take q ++ [s] from by rw [List.take_add_one, hs]; rfl)
        obtain ⟨s0, s1, s2, s3, s4, s5, s6, s7, rfl⟩ := list8 h8.1
        have HHC := hid (fun (j : Nat) (u : Value) (hj : (cSec [s0, s1, s2, s3, s4, s5, s6, s7])[j]? = some u) => hcc q _ hrow j u hj)
        have hWR := hid (show IntKind.i64.wrap (at_ + (q : Int)) = at_ + (q : Int) by rw [IntKind.wrap_i64]; have := HQQ.out; omega)
        have hwr2 := hWR.out
        obtain ⟨Q, hQ⟩ : ∃ Q, N + q = Q := ⟨_, rfl⟩
        rw [hQ] at hdb
        have HDBr := hid hdb
        have H8 := hid h8
        have HLQ : Hid ((ca ++ putL at_ (data.take q)).length = Q) := hid (by rw [List.length_append, putL_len, List.length_take, HM.out, HD.out]; omega)
        have hoc := hdb.oc
        rw [HLQ.out] at hoc
        have HOCr := hid hoc
        have hoc := hdb.os
        rw [HN.out] at hoc
        have HOSr := hid hoc
        have hxr := hdb.box
        have HXr := hid hxr
        have HCSr := hid hdb.cs
        have HK := hid (fun (X : World) (hX : ∀ T, T ≠ 77 → Keep T wr X) (hX1 : wr.heap.size ≤ X.heap.size) (hX2 : ∀ k, k < B → X.heap[k]? = wr.heap[k]?) => (show X.cell? ⟨p, 1, none⟩ = some (.slice C Q d2) ∧ X.cell? ⟨b, off + q * 8, none⟩ = some (.int .u8 (s0 : Int)) ∧ X.cell? ⟨b, off + q * 8 + 1, none⟩ = some (.int .u8 (s1 : Int)) ∧ X.cell? ⟨b, off + q * 8 + 2, none⟩ = some (.int .u8 (s2 : Int)) ∧ X.cell? ⟨b, off + q * 8 + 3, none⟩ = some (.int .u8 (s3 : Int)) ∧ X.cell? ⟨b, off + q * 8 + 4, none⟩ = some (.int .u8 (s4 : Int)) ∧ X.cell? ⟨b, off + q * 8 + 5, none⟩ = some (.int .u8 (s5 : Int)) ∧ X.cell? ⟨b, off + q * 8 + 6, none⟩ = some (.int .u8 (s6 : Int)) ∧ X.cell? ⟨b, off + q * 8 + 7, none⟩ = some (.int .u8 (s7 : Int)) from (by
          have g1 := hX 25 (by decide) _ _ HXr.out
          have g2 : ∀ (j : Nat) (u : Value), (cSec [s0, s1, s2, s3, s4, s5, s6, s7])[j]? = some u → X.cell? ⟨b, off + q * 8 + j, none⟩ = some u := fun j u hj => by
            have h := HHC.out j u hj
            unfold World.cell? at h ⊢
            rw [(hX2 b hbB).trans hbw]
            exact h
          exact ⟨cell_of_row _ _ 1 _ _ _ g1, g2 0 _ rfl, g2 1 _ rfl, g2 2 _ rfl, g2 3 _ rfl, g2 4 _ rfl, g2 5 _ rfl, g2 6 _ rfl, g2 7 _ rfl⟩)))
        obtain ⟨X0, hX0⟩ : ∃ X, wr.drew = X := ⟨_, rfl⟩
        have hB0 : Below wr.heap.size wr X0 := by rw [← hX0]; exact (Below.refl wr.heap.size wr).drew
        have hHeld := HK.out X0 (fun T _ => keep_below hB0) hB0.size (fun k hk => hB0.block k (Nat.lt_of_lt_of_le hk hwr))
        clear hcc hs h8 hrow hdb hoc hxr
        go_upto_region 10 with fail
        refine region_tail 13 (fun X => X.cell? ⟨p, 1, none⟩ = some (.slice C Q d2) ∧ X.cell? ⟨b, off + q * 8, none⟩ = some (.int .u8 (s0 : Int)) ∧ X.cell? ⟨b, off + q * 8 + 1, none⟩ = some (.int .u8 (s1 : Int)) ∧ X.cell? ⟨b, off + q * 8 + 2, none⟩ = some (.int .u8 (s2 : Int)) ∧ X.cell? ⟨b, off + q * 8 + 3, none⟩ = some (.int .u8 (s3 : Int)) ∧ X.cell? ⟨b, off + q * 8 + 4, none⟩ = some (.int .u8 (s4 : Int)) ∧ X.cell? ⟨b, off + q * 8 + 5, none⟩ = some (.int .u8 (s5 : Int)) ∧ X.cell? ⟨b, off + q * 8 + 6, none⟩ = some (.int .u8 (s6 : Int)) ∧ X.cell? ⟨b, off + q * 8 + 7, none⟩ = some (.int .u8 (s7 : Int))) (by kernel_rfl) ?_
        rw [hX0]
        clear hX0
        refine' wpAnyT_take (i := 0) (oi := ?oib0) (v := ?vb0) ?hib0 (by kernel_rfl) (by kernel_rfl) ?hqb0 ?hyb0 hHeld ?restb0
        case hib0 => (simp only [List.getElem?_toArray, List.getElem?_cons_zero]; rfl)
        case hqb0 => exact fun _ _ _ h => h
        case hyb0 => (refine Or.inl ⟨by rfl, ?_⟩; intro w' hSw; (try dsimp only at hSw); go_simp; try with_reducible rfl)
        (try simp only [Act.put, List.setIfInBounds_toArray, List.set_cons_zero, List.set_cons_succ])
        refine' wpAnyT_take (i := 1) (oi := ?oib1) (v := ?vb1) ?hib1 (by kernel_rfl) (by kernel_rfl) ?hqb1 ?hyb1 hHeld ?restb1
        case hib1 => (simp only [List.getElem?_toArray, List.getElem?_cons_zero, List.getElem?_cons_succ]; rfl)
        case hqb1 => exact fun _ _ _ h => h
        case hyb1 => (refine Or.inl ⟨by rfl, ?_⟩; intro w' hSw; (try dsimp only at hSw); go_simp; try with_reducible rfl)
        (try simp only [Act.put, List.setIfInBounds_toArray, List.set_cons_zero, List.set_cons_succ])
        refine' wpAnyT_take (i := 2) (oi := ?oib2) (v := ?vb2) ?hib2 (by kernel_rfl) (by kernel_rfl) ?hqb2 ?hyb2 hHeld ?restb2
        case hib2 => (simp only [List.getElem?_toArray, List.getElem?_cons_zero, List.getElem?_cons_succ]; rfl)
        case hqb2 => exact fun _ _ _ h => h
        case hyb2 => (refine Or.inl ⟨by rfl, ?_⟩; intro w' hSw; (try dsimp only at hSw); go_simp; try with_reducible rfl)
        (try simp only [Act.put, List.setIfInBounds_toArray, List.set_cons_zero, List.set_cons_succ])
        refine' wpAnyT_take (i := 3) (oi := ?oib3) (v := ?vb3) ?hib3 (by kernel_rfl) (by kernel_rfl) ?hqb3 ?hyb3 hHeld ?restb3
        case hib3 => (simp only [List.getElem?_toArray, List.getElem?_cons_zero, List.getElem?_cons_succ]; rfl)
        case hqb3 => exact fun _ _ _ h => h
        case hyb3 => (refine Or.inl ⟨by rfl, ?_⟩; intro w' hSw; (try dsimp only at hSw); go_simp; try with_reducible rfl)
        (try simp only [Act.put, List.setIfInBounds_toArray, List.set_cons_zero, List.set_cons_succ])
        refine' wpAnyT_take (i := 4) (oi := ?oib4) (v := ?vb4) ?hib4 (by kernel_rfl) (by kernel_rfl) ?hqb4 ?hyb4 hHeld ?restb4
        case hib4 => (simp only [List.getElem?_toArray, List.getElem?_cons_zero, List.getElem?_cons_succ]; rfl)
        case hqb4 => exact fun _ _ _ h => h
        case hyb4 => (refine Or.inl ⟨by rfl, ?_⟩; intro w' hSw; (try dsimp only at hSw); go_simp; try with_reducible rfl)
        (try simp only [Act.put, List.setIfInBounds_toArray, List.set_cons_zero, List.set_cons_succ])
        refine' wpAnyT_take (i := 5) (oi := ?oib5) (v := ?vb5) ?hib5 (by kernel_rfl) (by kernel_rfl) ?hqb5 ?hyb5 hHeld ?restb5
        case hib5 => (simp only [List.getElem?_toArray, List.getElem?_cons_zero, List.getElem?_cons_succ]; rfl)
        case hqb5 => exact fun _ _ _ h => h
        case hyb5 => (refine Or.inl ⟨by rfl, ?_⟩; intro w' hSw; (try dsimp only at hSw); go_simp; try with_reducible rfl)
        (try simp only [Act.put, List.setIfInBounds_toArray, List.set_cons_zero, List.set_cons_succ])
        refine' wpAnyT_take (i := 6) (oi := ?oib6) (v := ?vb6) ?hib6 (by kernel_rfl) (by kernel_rfl) ?hqb6 ?hyb6 hHeld ?restb6
        case hib6 => (simp only [List.getElem?_toArray, List.getElem?_cons_zero, List.getElem?_cons_succ]; rfl)
        case hqb6 => exact fun _ _ _ h => h
        case hyb6 => (refine Or.inl ⟨by rfl, ?_⟩; intro w' hSw; (try dsimp only at hSw); go_simp; try with_reducible rfl)
        (try simp only [Act.put, List.setIfInBounds_toArray, List.set_cons_zero, List.set_cons_succ])
        refine' wpAnyT_take (i := 7) (oi := ?oib7) (v := ?vb7) ?hib7 (by kernel_rfl) (by kernel_rfl) ?hqb7 ?hyb7 hHeld ?restb7
        case hib7 => (simp only [List.getElem?_toArray, List.getElem?_cons_zero, List.getElem?_cons_succ]; rfl)
        case hqb7 => exact fun _ _ _ h => h
        case hyb7 => (refine Or.inl ⟨by rfl, ?_⟩; intro w' hSw; (try dsimp only at hSw); go_simp; try with_reducible rfl)
        (try simp only [Act.put, List.setIfInBounds_toArray, List.set_cons_zero, List.set_cons_succ])
        refine' wpAnyT_take (i := 8) (oi := ?oib8) (v := ?vb8) ?hib8 (by kernel_rfl) (by kernel_rfl) ?hqb8 ?hyb8 hHeld ?restb8
        case hib8 => (simp only [List.getElem?_toArray, List.getElem?_cons_zero, List.getElem?_cons_succ]; rfl)
        case hqb8 => exact fun _ _ _ h => h
        case hyb8 => (refine Or.inl ⟨by rfl, ?_⟩; intro w' hSw; (try dsimp only at hSw); go_simp; try with_reducible rfl)
        (try simp only [Act.put, List.setIfInBounds_toArray, List.set_cons_zero, List.set_cons_succ])
        refine' wpAnyT_take (i := 9) (oi := ?oib9) (v := ?vb9) ?hib9 (by kernel_rfl) (by kernel_rfl) ?hqb9 ?hyb9 hHeld ?restb9
        case hib9 => (simp only [List.getElem?_toArray, List.getElem?_cons_zero, List.getElem?_cons_succ]; rfl)
        case hqb9 => exact fun _ _ _ h => h
        case hyb9 => (refine Or.inl ⟨by rfl, ?_⟩; intro w' hSw; (try dsimp only at hSw); go_simp; try with_reducible rfl)
        (try simp only [Act.put, List.setIfInBounds_toArray, List.set_cons_zero, List.set_cons_succ])
        refine' wpAnyT_one (i := 10) (o := ?oib10) (by kernel_rfl) ?hib10 (fun K hK => ?stb10)
        case hib10 => (simp only [List.getElem?_toArray, List.getElem?_cons_zero, List.getElem?_cons_succ]; rfl)
        go_simp
        obtain ⟨X2, hX2⟩ : ∃ X, X0.alloc (.cells #[.int .i64 (at_ + (q : Int)), .int .u8 (s0 : Int), .int .u8 (s1 : Int), .int .u8 (s2 : Int), .int .u8 (s3 : Int), .int .u8 (s4 : Int), .int .u8 (s5 : Int), .int .u8 (s6 : Int), .int .u8 (s7 : Int)] 77) = X := ⟨_, rfl⟩
        obtain ⟨h6, hh6⟩ : ∃ h, X0.heap.size = h := ⟨_, rfl⟩
        have hb2 : Below X0.heap.size X0 X2 := by rw [← hX2]; exact al1 _ _
        have hz6 : X2.heap[h6]? = some (.cells (cCa (at_ + (q : Int), [s0, s1, s2, s3, s4, s5, s6, s7])).toArray 77) := by rw [← hX2, ← hh6]; exact heap_alloc_new _ _
        have hc6 : ∀ (j : Nat) (u : Value), (cCa (at_ + (q : Int), [s0, s1, s2, s3, s4, s5, s6, s7]))[j]? = some u → X2.cell? ((⟨h6, 0, none⟩ : Addr).add j) = some u := fun j u hu => by
          rw [add_at', cell_of_row _ _ _ _ _ _ hz6]
          simpa using hu
        rw [hX2, hh6]
        have hB2 : Below wr.heap.size wr X2 := hB0.trans (hb2.mono hB0.size)
        have HOC2 := hid (own_keep HOCr.out (keep_below hB2))
        have hbs : B ≤ X2.heap.size := Nat.le_trans hwr hB2.size
        clear hHeld hX2 hh6 hb2 hz6
        have hHeld := HK.out X2 (fun T _ => keep_below hB2) hB2.size (fun k hk => hB2.block k (Nat.lt_of_lt_of_le hk hwr))
        refine hK.out _ _ (fun _ => hHeld) ?_
        clear hK K
        (try simp only [Act.put, List.setIfInBounds_toArray, List.set_cons_zero, List.set_cons_succ])
        refine' wpAnyT_one (i := 11) (o := ?oib11) (by kernel_rfl) ?hib11 (fun K hK => ?stb11)
        case hib11 => (simp only [List.getElem?_toArray, List.getElem?_cons_zero, List.getElem?_cons_succ]; rfl)
        refine step_append_own rfl (.tmp 47) (.tmp 56) 23 rfl B 77 i0 _ 9 16 Try.underlying23 hi hz0 hz1 hz2 rfl (by decide) (.slice C Q d2) Q _ (by simp [Act.eval]) HOC2.out ⟨h6, 0, none⟩ 1 1 (cCa (at_ + (q : Int), [s0, s1, s2, s3, s4, s5, s6, s7])) (by simp [Act.eval]) rfl hc6 (onesOne _ _) (by unfold maxLen; omega) (by omega) hbs ?_
        intro v9 X3 ho9 hg9
        obtain ⟨C3, d3, rfl⟩ := ownAny_form ho9
        have hk3 : ∀ T, T ≠ 77 → Keep T wr X3 := fun T hT => (keep_below hB2).trans (keep_grown HOC2.out hT hg9)
        have HB3 : Hid (Below B wr X3) := hid (below_own (hB2.mono hwr) HOC2.out hg9 hbs (Nat.le_refl _))
        have HOC3 := hid ho9
        have hx3 := hk3 25 (by decide) _ _ HXr.out
        have HX3 := hid hx3
        have HK3 := hid hk3
        have y1 := cell_of_row _ _ 1 _ _ _ hx3
        have fy1 := box_fr hx3 1
        clear hHeld
        have hHeld := HK.out X3 hk3 (Nat.le_trans hB2.size hg9.size) HB3.out.block
        clear ho9 hg9 hc6 hx3
        refine hK.out _ _ (fun _ => hHeld) ?_
        clear hK K
        (try simp only [Act.put, List.setIfInBounds_toArray, List.set_cons_zero, List.set_cons_succ])
        refine' wpAnyT_one (i := 12) (o := ?oib12) (by kernel_rfl) ?hib12 (fun K hK => ?stb12)
        case hib12 => (simp only [List.getElem?_toArray, List.getElem?_cons_zero, List.getElem?_cons_succ]; rfl)
        go_simp
        refine hK.out _ _ (fun _ => hHeld) ?_
        clear hK K
        (try simp only [Act.put, List.setIfInBounds_toArray, List.set_cons_zero, List.set_cons_succ])
        refine' wpAnyT_one (i := 13) (o := ?oib13) (by kernel_rfl) ?hib13 (fun K hK => ?stb13)
        case hib13 => (simp only [List.getElem?_toArray, List.getElem?_cons_zero, List.getElem?_cons_succ]; rfl)
        go_simp
        obtain ⟨X4, hX4⟩ : ∃ X, X3.setCell ⟨p, 1, none⟩ (.slice C3 (Q + 1) d3) = X := ⟨_, rfl⟩
        rw [hX4]
        have HX4 : Hid (X4.heap[p]? = some (.cells #[.slice A2 n c2, .slice C3 (Q + 1) d3] 25)) := hid (by
          rw [← hX4]
          exact box_set (cs := [.slice A2 n c2, .slice C Q d2]) HX3.out 1 _)
        have HOC4 := hid (show X4.ownsRow B 77 9 _ (Q + 1) _ by rw [← hX4]; exact own_keep HOC3.out (keep_box HX3.out (by decide) _ _))
        have HOS4 : Hid (X4.ownsRow B 73 8 (.slice A2 n c2) n (st.map cSec).flatten) := hid (by
          rw [← hX4]
          exact own_keep (own_keep HOSr.out (HK3.out 73 (by decide))) (keep_box HX3.out (by decide) _ _))
        have HB4 : Hid (Below B wr X4) := hid (by rw [← hX4]; exact HB3.out.setCell hBp _)
        clear hX4 y1 fy1
        refine hK.out _ _ (fun h => absurd h (by decide)) ?_
        clear hK K
        (try simp only [Act.put, List.setIfInBounds_toArray, List.set_cons_zero, List.set_cons_succ])
        refine wpAnyT_done (by kernel_rfl) ?_ _
        go_wp2_with fail
        go_roundw
        case rel =>
          exact ⟨q + 1, by omega, by go_num, hid ⟨C3, d3, by rw [show N + (q + 1) = Q + 1 from by omega]; exact HX4.out, by rw [HN.out]; exact HOS4.out, by
            rw [show N + (q + 1) = Q + 1 from by omega, HTK.out, putL_snoc, ← List.append_assoc, List.length_append, HLQ.out, List.map_append, List.flatten_append, show (data.take q).length = q from by rw [List.length_take, HD.out]; omega]
            simpa using HOC4.out, HSC.out.1, fun x hx => by
            rw [HTK.out, putL_snoc, ← List.append_assoc] at hx
            rcases List.mem_append.1 hx with hx | hx
            · exact HCSr.out x hx
            · rw [List.mem_singleton] at hx
              subst hx
              exact ⟨H8.out.1, H8.out.2, by unfold R64; dsimp only; rw [show (data.take q).length = q from by rw [List.length_take, HD.out]; omega]; have := HQQ.out; omega⟩⟩, hid (HB.out.trans HB4.out)⟩
        case measure => simp [Go.RowKit.intOf]; omega
      · obtain rfl : m = q := by omega
        have e1 : decide ((m : Int) < (m : Int)) = false := decide_eq_false (by omega)
        have hdb' := hdb
        rw [show data.take m = data from List.take_of_length_le (by rw [HD.out]; exact Nat.le_refl _)] at hdb'
        have HDBr := hid hdb'
        have q0 := cell_of_row _ _ 0 _ _ _ hdb.box
        have q1 := cell_of_row _ _ 1 _ _ _ hdb.box
        have hyr := (HBw1.out.block _ (box_lt HY1.out)).trans HY1.out
        have HYr := hid hyr
        have y0 := cell_of_row _ _ 0 _ _ _ hyr
        have y1 := cell_of_row _ _ 1 _ _ _ hyr
        have f0 := box_fr hyr 0
        have f1 := box_fr hyr 1
        clear hdb hdb' hyr
        go_wp2_with fail
        refine bodyPost_ret (results_v1 rfl _ _ (g + 1) _ rfl (disk_load (disk_set HYr.out _ _)) _ rfl) rfl ?_
        rw [HR.out]
        exact ⟨_, rfl, OwnG.keep (B := B) ⟨⟨_, _, rfl, HDBr.out.os, HDBr.out.oc⟩, HDBr.out.ss, HDBr.out.cs⟩ (keep_two HYr.out (by decide)) (keep_two HYr.out (by decide)) (Nat.le_trans HB1.out.size h1B), ((HB1.out.trans (HBw1.out.mono HB1.out.size)).setCell hge1 _).setCell hge1 _⟩
def fewD (st : List Sect) (ca : List Ca) : Bool := decide (st.length ≤ 400) && decide (ca.length ≤ 400)
set_option maxHeartbeats 4000000 in
set_option maxRecDepth 100000 in
theorem few_any (v : Value) (st : List Sect) (ca : List Ca) (w : World) (hd : Dk w v st ca) : Calls Try.prog 11 #[v] w fun e w' => e = .returned (.bool (fewD st ca)) ∧ Below w.heap.size w w' := by
  obtain ⟨sv, cv, rfl, hs, _, hc⟩ := hd
  obtain ⟨A, c, rfl⟩ := sec_form hs
  obtain ⟨B, d, rfl⟩ := cas_form hc
  obtain ⟨n, hn⟩ : ∃ n, st.length = n := ⟨_, rfl⟩
  obtain ⟨m, hm⟩ : ∃ n, ca.length = n := ⟨_, rfl⟩
  obtain ⟨r, hr⟩ : ∃ r, fewD st ca = r := ⟨_, rfl⟩
  rw [hn, hm, hr]
  unfold fewD at hr
  rw [hn, hm] at hr
  obtain ⟨g, hg⟩ : ∃ g, w.heap.size = g := ⟨_, rfl⟩
  obtain ⟨W1, hW1⟩ : ∃ X, w.alloc (.cells #[.slice A n c, .slice B m d] 25) = X := ⟨_, rfl⟩
  have HB1 : Hid (Below w.heap.size w W1) := hid (by rw [← hW1]; exact al1 _ _)
  have hx1 : W1.heap[g]? = some (.cells #[.slice A n c, .slice B m d] 25) := by rw [← hW1, ← hg]; exact heap_alloc_new w _
  have x0 := cell_of_row _ _ 0 _ _ _ hx1
  have x1 := cell_of_row _ _ 1 _ _ _ hx1
  have HW1 := hid hW1
  have HG := hid hg
  clear hs hc hn hm hx1 hW1 hg
  by_cases h1 : n ≤ 400
  · have e1 : decide (n ≤ 400) = true := decide_eq_true h1
    have e1' : decide ((n : Int) ≤ 400) = true := decide_eq_true (by omega)
    obtain ⟨b4, hb4⟩ : ∃ b, decide (m ≤ 400) = b := ⟨_, rfl⟩
    have hb4' : decide ((m : Int) ≤ 400) = b4 := by rw [← hb4, decide_eq_decide]; omega
    rw [e1, hb4, Bool.true_and] at hr
    subst hr
    go_enter Try.func11, Try.ntmps11
    go_upto_region 1 with fail
    rw [HW1.out, HG.out]
    go_wp2_with fail
    go_ret
    exact ⟨rfl, HB1.out⟩
  · have e1 : decide (n ≤ 400) = false := decide_eq_false h1
    have e1' : decide ((n : Int) ≤ 400) = false := decide_eq_false (by omega)
    rw [e1, Bool.false_and] at hr
    obtain rfl : false = r := hr
    go_enter Try.func11, Try.ntmps11
    go_upto_region 1 with fail
    rw [HW1.out, HG.out]
    go_wp2_with fail
    go_ret
    exact ⟨rfl, HB1.out⟩
end Go.Proofs.Ytoefbgkeinhibaa
