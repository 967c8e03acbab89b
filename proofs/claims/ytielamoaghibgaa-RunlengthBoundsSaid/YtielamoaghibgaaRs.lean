/- The law RunlengthBounds: its walk. -/
import Derived.Test.YtielamoaghibgaaRq
import Derived.Deep.DeepCutAuto
namespace Go.Proofs.Ytielamoaghibgaa
open Go.RowKit Go.Lib

theorem st8_below {B g o x0 x1 x2 x3 x4 x5 x6 x7 : Nat} {a w : World} (h : Below B a w) (hg : B ≤ g) : Below B a (st8 w g o x0 x1 x2 x3 x4 x5 x6 x7) :=
  (((((((h.setCell (p := ⟨g, _, none⟩) hg _).setCell (p := ⟨g, _, none⟩) hg _).setCell (p := ⟨g, _, none⟩) hg _).setCell (p := ⟨g, _, none⟩) hg _).setCell (p := ⟨g, _, none⟩) hg _).setCell (p := ⟨g, _, none⟩) hg _).setCell (p := ⟨g, _, none⟩) hg _).setCell (p := ⟨g, _, none⟩) hg _
set_option maxHeartbeats 4000000 in
set_option maxRecDepth 100000 in
theorem bounds_walk (l : List Sect) (x : Sect) (q : Nat) (v : Value) (w : World) (hv : Sec w v l) (hx : x.length = 8) (hx8 : B8 x) (hq : q < 65536) : Calls Try.prog 8 #[v, .agg (cSec x).toArray, .int .u16 (q : Int)] w (GoodB w) := by
  have HA := hid awake_any
  have hs8 := hx8
  obtain ⟨x0, x1, x2, x3, x4, x5, x6, x7, rfl⟩ := list8 hx
  show Calls Try.prog 8 #[v, .agg #[.int .u8 (x0 : Int), .int .u8 (x1 : Int), .int .u8 (x2 : Int), .int .u8 (x3 : Int), .int .u8 (x4 : Int), .int .u8 (x5 : Int), .int .u8 (x6 : Int), .int .u8 (x7 : Int)], .int .u16 (q : Int)] w _
  have HXS : Hid (B8 [x0, x1, x2, x3, x4, x5, x6, x7]) := hid hs8
  obtain ⟨W1, hW1⟩ : ∃ W1, w.alloc (.cells #[.int .u8 (x0 : Int), .int .u8 (x1 : Int), .int .u8 (x2 : Int), .int .u8 (x3 : Int), .int .u8 (x4 : Int), .int .u8 (x5 : Int), .int .u8 (x6 : Int), .int .u8 (x7 : Int)] 41) = W1 := ⟨_, rfl⟩
  have hb1 : Below w.heap.size w W1 := by rw [← hW1]; exact al1 _ _
  have HX1 := hid (show W1.heap[w.heap.size]? = some (.cells #[.int .u8 (x0 : Int), .int .u8 (x1 : Int), .int .u8 (x2 : Int), .int .u8 (x3 : Int), .int .u8 (x4 : Int), .int .u8 (x5 : Int), .int .u8 (x6 : Int), .int .u8 (x7 : Int)] 41) by rw [← hW1]; exact heap_alloc_new w _)
  have HZ1 : Hid (W1.heap.size = w.heap.size + 1) := hid (by rw [← hW1]; simp)
  have HB1 := hid hb1
  have HV1 := hid (hv.below hb1)
  have HSL := hid hv.1
  obtain ⟨A, c, rfl⟩ := sec_form hv
  obtain ⟨L, hL⟩ : ∃ L, l.length = L := ⟨_, rfl⟩
  have HLn := hid hL
  rw [hL] at HV1 ⊢
  clear hv hx hx8 hs8 hb1 hL
  by_cases hbig : 300 < L
  · have d1 : decide ((300 : Int) < (L : Int)) = true := by simp; omega
    go_enter Try.func8, Try.ntmps8
    go_wp2_with fail
    refine (HA.out _).mono ?_
    rintro e w2 ⟨rfl, hb2⟩
    have HB2 := hid (below_both HB1.out hb2)
    clear hb2
    go_wp2
    go_ret
    exact ⟨rfl, HB2.out⟩
  · have d1 : decide ((300 : Int) < (L : Int)) = false := by simp; omega
    have HS := hid (size_any l _ W1 HV1.out (by have := HLn.out; omega))
    have HRL := hid (rl_len _ l (Nat.le_refl _) HSL.out)
    obtain ⟨N, hN⟩ : ∃ N, (rl l).length = N := ⟨_, rfl⟩
    have HN := hid hN
    rw [hN] at HS
    obtain ⟨r, hr⟩ : ∃ r, q % 4097 = r := ⟨_, rfl⟩
    have hr4 : r ≤ 4096 := by omega
    have HR : Hid ((q : Int) % 4097 = (r : Int)) := hid (by omega)
    clear hN hr
    have HW1 := hid hW1
    clear hW1
    go_enter Try.func8, Try.ntmps8
    go_wp2_with fail
    rw [HW1.out]
    clear HW1
    refine HS.out.mono ?_
    rintro e W2 ⟨rfl, hb2⟩
    have HB2 := hid (below_both HB1.out hb2)
    have HX2 := hid ((hb2.block w.heap.size (by have := HZ1.out; omega)).trans HX1.out)
    have hz2 : w.heap.size < W2.heap.size := by have := HZ1.out; have := hb2.size; omega
    clear hb2 HS HB1 HX1 HV1
    go_upto_region 4 with fail
    go_cut [33] (fun t wx => t = .bool false ∧ wx = W2)
    case first =>
      by_cases h0 : L = 0
      · have hN0 : N = 0 := by have := HRL.out.1; have := HN.out; have := HLn.out; omega
        subst h0
        subst hN0
        go_wp2_with fail
        go_meet
        exact ⟨rfl, rfl⟩
      · have hN9 : N ≤ 9 * L := by have := HRL.out.1; have := HN.out; have := HLn.out; omega
        have hN1 : 1 ≤ N := by have := HRL.out.2 (fun e => h0 (by rw [← HLn.out, e]; rfl)); have := HN.out; omega
        have d2 : decide (9 * (L : Int) < (N : Int)) = false := by simp; omega
        have d3 : ((N : Int) == 0) = false := by simp; omega
        have d4 : decide ((N : Int) < 0) = false := by simp
        clear h0
        go_wp2_with fail
        go_meet
        exact ⟨rfl, rfl⟩
    case rest =>
      obtain ⟨rfl, rfl⟩ := hcut
      have hmk : ∀ W : World, (Instr.makeSlice 22 (.int .i64 (r : Int)) (.int .i64 (r : Int))).run Try.prog W = .ok (.slice (some ⟨W.heap.size, 0, none⟩) r r) (W.alloc (.cells (laid [] r).toArray 41)) := fun W => by
        obtain ⟨i0, hi, hz0, hz1, hz2⟩ := info_parts info41
        have h := run_make (P := Try.prog) W 22 41 i0 _ Try.underlying22 hi hz0 .i64 .i64 (r : Int) (r : Int) (by omega) (by omega) (by rw [hz2]; omega) (by omega)
        rw [hz1, Int.toNat_natCast, made_secs] at h
        exact h
      obtain ⟨W3, hW3⟩ : ∃ W3, wc.alloc (.cells (laid [] r).toArray 41) = W3 := ⟨_, rfl⟩
      have hmk3 := hmk wc
      rw [hW3] at hmk3
      obtain ⟨g, hg⟩ : ∃ g, wc.heap.size = g := ⟨_, rfl⟩
      have hx3 : W3.heap[g]? = some (.cells (laid [] r).toArray 41) := by rw [← hW3, ← hg]; exact heap_alloc_new wc _
      have hb3 : Below wc.heap.size wc W3 := by rw [← hW3]; exact al1 _ _
      have HX3 := hid ((hb3.block w.heap.size hz2).trans HX2.out)
      have HB3 := hid (below_both HB2.out hb3)
      have HL3 := hid hx3
      rw [hg] at hmk3 hz2
      have hr6 := HR.out
      clear hmk hW3 hx3 hb3 hg HB2 HX2
      go_wp2_with fail
      go_loopw [40] (fun i wr => ∃ (k : Nat), k ≤ r ∧ i = .int .i64 (k : Int) ∧ Hid (wr.heap[g]? = some (.cells (laid (List.replicate k [x0, x1, x2, x3, x4, x5, x6, x7]) (r - k)).toArray 41)) ∧ Hid (wr.heap[w.heap.size]? = some (.cells #[.int .u8 (x0 : Int), .int .u8 (x1 : Int), .int .u8 (x2 : Int), .int .u8 (x3 : Int), .int .u8 (x4 : Int), .int .u8 (x5 : Int), .int .u8 (x6 : Int), .int .u8 (x7 : Int)] 41)) ∧ Hid (Below w.heap.size w wr)) (fun i _ => r - (Lib.intOf i).toNat)
      case atStart => exact ⟨0, Nat.zero_le _, rfl, HL3, HX3, HB3⟩
      case round =>
        clear HL3 HX3 HB3 hmk3 hr6
        obtain ⟨k, hk, rfl, HLr, HXr, HBr⟩ := hrel
        by_cases hkr : k < r
        · have hkc : (k : Int) < (r : Int) := by omega
          have q0 := cell_of_row _ _ 0 _ _ _ HXr.out
          have q1 := cell_of_row _ _ 1 _ _ _ HXr.out
          have q2 := cell_of_row _ _ 2 _ _ _ HXr.out
          have q3 := cell_of_row _ _ 3 _ _ _ HXr.out
          have q4 := cell_of_row _ _ 4 _ _ _ HXr.out
          have q5 := cell_of_row _ _ 5 _ _ _ HXr.out
          have q6 := cell_of_row _ _ 6 _ _ _ HXr.out
          have q7 := cell_of_row _ _ 7 _ _ _ HXr.out
          obtain ⟨mm, hmm⟩ : ∃ mm, r - k = mm + 1 := ⟨r - k - 1, by omega⟩
          have hcl : ((List.replicate k [x0, x1, x2, x3, x4, x5, x6, x7]).map cSec).flatten.length = 8 * k := by rw [flat_cells (fun s hs => by rw [List.eq_of_mem_replicate hs]; exact ⟨rfl, HXS.out⟩), List.length_replicate]
          have HXk := HLr.out
          rw [hmm] at HXk
          have z0 := laid_cell HXk hcl 0 (by omega)
          have z1 := laid_cell HXk hcl 1 (by omega)
          have z2 := laid_cell HXk hcl 2 (by omega)
          have z3 := laid_cell HXk hcl 3 (by omega)
          have z4 := laid_cell HXk hcl 4 (by omega)
          have z5 := laid_cell HXk hcl 5 (by omega)
          have z6 := laid_cell HXk hcl 6 (by omega)
          have z7 := laid_cell HXk hcl 7 (by omega)
          rw [Nat.add_zero] at z0
          have fz := fun j => box_fr HXk j
          have HST := hid (laid_store HXk hcl x0 x1 x2 x3 x4 x5 x6 x7)
          have HMM := hid hmm
          have hne : w.heap.size ≠ g := by omega
          obtain ⟨W8, hW8⟩ : ∃ W8, st8 wr g (k * 8) x0 x1 x2 x3 x4 x5 x6 x7 = W8 := ⟨_, rfl⟩
          have hch : ((((((((wr.setCell ⟨g, k * 8, none⟩ (.int .u8 (x0 : Int))).setCell ⟨g, k * 8 + 1, none⟩ (.int .u8 (x1 : Int))).setCell ⟨g, k * 8 + 2, none⟩ (.int .u8 (x2 : Int))).setCell ⟨g, k * 8 + 3, none⟩ (.int .u8 (x3 : Int))).setCell ⟨g, k * 8 + 4, none⟩ (.int .u8 (x4 : Int))).setCell ⟨g, k * 8 + 5, none⟩ (.int .u8 (x5 : Int))).setCell ⟨g, k * 8 + 6, none⟩ (.int .u8 (x6 : Int))).setCell ⟨g, k * 8 + 7, none⟩ (.int .u8 (x7 : Int))) = W8 := hW8
          have HX8 := hid (show W8.heap[g]? = some (.cells (laid (List.replicate (k + 1) [x0, x1, x2, x3, x4, x5, x6, x7]) mm).toArray 41) from by rw [← hW8, List.replicate_succ']; exact HST.out)
          have HC8 := hid (show W8.heap[w.heap.size]? = some (.cells #[.int .u8 (x0 : Int), .int .u8 (x1 : Int), .int .u8 (x2 : Int), .int .u8 (x3 : Int), .int .u8 (x4 : Int), .int .u8 (x5 : Int), .int .u8 (x6 : Int), .int .u8 (x7 : Int)] 41) from by rw [← hW8, st8_other hne]; exact HXr.out)
          have HU8 := hid (show Below w.heap.size w W8 from by rw [← hW8]; exact st8_below HBr.out (by omega))
          clear hW8 HST HXk hcl hmm HLr HXr HBr hne
          go_wp2
          go_roundw
          case rel => exact ⟨k + 1, by omega, by go_num, hid (by rw [show r - (k + 1) = mm by have := HMM.out; omega]; exact HX8.out), HC8, HU8⟩
          case measure => simp [Lib.intOf]; omega
        · obtain rfl : k = r := by omega
          have hsec : Secs (List.replicate k [x0, x1, x2, x3, x4, x5, x6, x7]) := fun s hs => by rw [List.eq_of_mem_replicate hs]; exact ⟨rfl, HXS.out⟩
          have hown : wr.ownsRow g 41 8 (.slice (some ⟨g, 0, none⟩) k k) k ((List.replicate k [x0, x1, x2, x3, x4, x5, x6, x7]).map cSec).flatten := by
            have hx := HLr.out
            rw [Nat.sub_self] at hx
            have hl0 : laid (List.replicate k [x0, x1, x2, x3, x4, x5, x6, x7]) 0 = ((List.replicate k [x0, x1, x2, x3, x4, x5, x6, x7]).map cSec).flatten := by unfold laid; simp
            rw [hl0] at hx
            have hfl : ((List.replicate k [x0, x1, x2, x3, x4, x5, x6, x7]).map cSec).flatten.length = k * 8 := by rw [flat_cells hsec, List.length_replicate]; omega
            exact ⟨hfl, .inr ⟨g, k, _, rfl, Nat.le_refl _, hx, Nat.le_refl _, by unfold maxLen; omega, by simpa using hfl, (show List.take (k * 8) ((List.replicate k [x0, x1, x2, x3, x4, x5, x6, x7]).map cSec).flatten = _ from List.take_of_length_le (Nat.le_of_eq hfl))⟩⟩
          have hSC : Sec wr (.slice (some ⟨g, 0, none⟩) k k) (List.replicate k [x0, x1, x2, x3, x4, x5, x6, x7]) := sec_of_own (base := g) (by rw [List.length_replicate]; exact hown) hsec
          have HSZ := hid (size_any _ _ wr hSC (by rw [List.length_replicate]; omega))
          obtain ⟨N2, hN2⟩ : ∃ N2, (rl (List.replicate k [x0, x1, x2, x3, x4, x5, x6, x7])).length = N2 := ⟨_, rfl⟩
          have hN11 : N2 ≤ 11 := by rw [← hN2]; exact rl_rep [x0, x1, x2, x3, x4, x5, x6, x7] k rfl (by omega)
          rw [hN2] at HSZ
          have d6 : decide ((N2 : Int) ≤ 11) = true := by simp; omega
          clear hsec hown hSC hN2 HLr HXr
          go_wp2_with fail
          refine HSZ.out.mono ?_
          rintro e w5 ⟨rfl, hb⟩
          have HB5 := hid (below_both HBr.out hb)
          clear hb HSZ HBr
          go_wp2_with fail
          refine (HA.out _).mono ?_
          rintro e w6 ⟨rfl, hb6⟩
          have HB6 := hid (below_both HB5.out hb6)
          clear hb6
          go_wp2
          go_ret
          exact ⟨rfl, HB6.out⟩
end Go.Proofs.Ytielamoaghibgaa
