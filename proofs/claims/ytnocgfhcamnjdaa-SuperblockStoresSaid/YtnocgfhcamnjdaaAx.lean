/- Superblock: the reference's Load 16 and Store 19. -/
import Derived.Test.YtnocgfhcamnjdaaAw
namespace Go.Proofs.Ytnocgfhcamnjdaa
open Go.RowKit Go.Lib

theorem readL_secs {st : List Sect} {ca : List Ca} {a : Int} (h : Secs st) (hc : ∀ x ∈ ca, x.2.length = 8 ∧ B8 x.2) : Secs (readL st ca a 16) := by
  unfold readL
  split
  · exact secs_mid (newL_secs h hc) _ _
  · exact fun s hs => by cases hs
theorem loadR_lt {st : List Sect} {ca : List Ca} {a : Int} (h : Secs st) (hc : ∀ x ∈ ca, x.2.length = 8 ∧ B8 x.2) : (loadR st ca a).2.2 < 4294967296 := by
  unfold loadR
  split
  · rename_i h0
    split
    · exact (nst_good (readL_secs h hc) (readL_len h0).1 2 (Nat.le_refl _)).2.2
    · show (0 : Nat) < _; decide
  · show (0 : Nat) < _; decide
set_option maxHeartbeats 2000000 in
set_option maxRecDepth 100000 in
theorem refLoad_any (st : List Sect) (ca : List Ca) (sv cv : Value) (a : Int) (w : World) (hs : Sec w sv st) (hsn : NilOk sv) (hc : Cas w cv ca) (hr : R64 a) :
    Calls Try.prog 16 #[.agg #[sv, cv], .int .i64 a] w (LoadQ w (loadR st ca a)) := by
  have hlt := loadR_lt (a := a) hs.1 (fun y hy => ⟨(hc.1 y hy).1, (hc.1 y hy).2.1⟩)
  obtain ⟨A, c, rfl⟩ := sec_form hs
  obtain ⟨B, d, rfl⟩ := cas_form hc
  obtain ⟨n, hn⟩ : ∃ n, st.length = n := ⟨_, rfl⟩
  obtain ⟨m, hm⟩ : ∃ n, ca.length = n := ⟨_, rfl⟩
  obtain ⟨g, hg⟩ : ∃ g, w.heap.size = g := ⟨_, rfl⟩
  obtain ⟨W1, hW1⟩ : ∃ X, w.alloc (.cells #[.slice A n c, .slice B m d] 35) = X := ⟨_, rfl⟩
  have hb1 : Below w.heap.size w W1 := by rw [← hW1]; exact al1 _ _
  have hx1 : W1.heap[g]? = some (.cells #[.slice A n c, .slice B m d] 35) := by rw [← hW1, ← hg]; exact heap_alloc_new _ _
  have HFD := hid (find_any st ca _ _ a W1 (hs.below hb1) hsn (hc.below hb1) hr)
  rw [hn, hm] at HFD
  rw [hn, hm]
  have x0 := cell_of_row _ _ 0 _ _ _ hx1
  have x1 := cell_of_row _ _ 1 _ _ _ hx1
  have HB1 := hid hb1
  have HW1 := hid hW1
  have HG := hid hg
  have HFQ : Hid (∀ X e w', FinQ X st ca a e w' → ∃ (lv pv : Value) (ix : Nat), e = .returned (.tuple #[lv, .int .i64 (ix : Int), pv, .int .u32 ((loadR st ca a).2.2 : Int), .int .i64 (loadR st ca a).1]) ∧ Byt w' pv (loadR st ca a).2.1 ∧ Below X.heap.size X w') := hid (fun X e w' h => by
    obtain ⟨lv, pv, ix, h1, _, h3, _, h5⟩ := h
    exact ⟨lv, pv, ix, h1, h3, h5⟩)
  obtain ⟨r, hr9⟩ : ∃ r, loadR st ca a = r := ⟨_, rfl⟩
  rw [hr9] at HFQ hlt ⊢
  obtain ⟨er, p, k⟩ := r
  have hwk : IntKind.i64.wrap (k : Int) = (k : Int) := by rw [IntKind.wrap_i64]; have h : k < 4294967296 := hlt; omega
  clear hs hsn hc hb1 hx1 hW1 hg hn hm hr9 hlt
  go_enter Try.func16, Try.ntmps16
  go_upto_region 1 with fail
  rw [HW1.out, HG.out]
  go_wp2_with (go_at_call 36; refine HFD.out.mono ?_; intro e X hQ; obtain ⟨lv, pv, ix, rfl, hp, hb⟩ := HFQ.out _ _ _ hQ; have HP := hid hp; have HB := hid (below_both HB1.out hb); clear hQ hp hb)
  go_ret3
  exact ⟨_, rfl, HP.out, HB.out⟩
set_option maxHeartbeats 4000000 in
set_option maxRecDepth 100000 in
theorem refStore_any (st : List Sect) (ca : List Ca) (sv cv pv : Value) (a : Int) (p : List Nat) (w : World) (hs : Sec w sv st) (hsn : NilOk sv) (hc : Cas w cv ca) (hr : R64 a) (hp : Byt w pv p) :
    Calls Try.prog 19 #[.agg #[sv, cv], .int .i64 a, pv] w (MadeOps w (storE st ca a p) (storC st ca a p)) := by
  obtain ⟨PA, pc, rfl⟩ := byt_form hp
  have hL16 : readE st.length ca a 16 = 0 → (readL st ca a 16).length = 16 ∧ 0 ≤ a ∧ a ≤ 4080 := fun h => readL_len h
  have hlr : (loadR st ca a).1 = 0 → readE st.length ca a 16 = 0 ∧ 0 < (newS (readL st ca a 16)).2.2 := fun h => by
    unfold loadR at h
    by_cases h0 : readE st.length ca a 16 = 0
    · rw [if_pos h0] at h
      by_cases h1 : 0 < (newS (readL st ca a 16)).2.2
      · exact ⟨h0, h1⟩
      · rw [if_neg h1] at h; cases h
    · rw [if_neg h0] at h; exact absurd h h0
  have hse : (loadR st ca a).1 ≠ 0 → storE st ca a p = (loadR st ca a).1 := fun h => by
    unfold storE
    unfold loadR at h ⊢
    by_cases h0 : readE st.length ca a 16 = 0
    · rw [if_pos h0] at h ⊢
      rw [if_pos h0]
      by_cases h1 : 0 < (newS (readL st ca a 16)).2.2
      · rw [if_pos h1] at h; exact absurd rfl h
      · rw [if_neg h1, if_neg h1]
    · rw [if_neg h0, if_neg h0]
  obtain ⟨A, c, rfl⟩ := sec_form hs
  obtain ⟨B, d, rfl⟩ := cas_form hc
  obtain ⟨n, hn⟩ : ∃ n, st.length = n := ⟨_, rfl⟩
  obtain ⟨m, hm⟩ : ∃ n, ca.length = n := ⟨_, rfl⟩
  obtain ⟨g, hg⟩ : ∃ g, w.heap.size = g := ⟨_, rfl⟩
  obtain ⟨W1, hW1⟩ : ∃ X, w.alloc (.cells #[.slice A n c, .slice B m d] 35) = X := ⟨_, rfl⟩
  have hb1 : Below w.heap.size w W1 := by rw [← hW1]; exact al1 _ _
  have hx1 : W1.heap[g]? = some (.cells #[.slice A n c, .slice B m d] 35) := by rw [← hW1, ← hg]; exact heap_alloc_new _ _
  have HFD := hid (find_any st ca _ _ a W1 (hs.below hb1) hsn (hc.below hb1) hr)
  rw [hn, hm] at HFD
  rw [hn, hm]
  have x0 := cell_of_row _ _ 0 _ _ _ hx1
  have x1 := cell_of_row _ _ 1 _ _ _ hx1
  have HB1 := hid hb1
  have HW1 := hid hW1
  have HG := hid hg
  have HFQ : Hid (∀ X e w', FinQ X st ca a e w' → ∃ (lv pv : Value) (ix : Nat), e = .returned (.tuple #[lv, .int .i64 (ix : Int), pv, .int .u32 ((loadR st ca a).2.2 : Int), .int .i64 (loadR st ca a).1]) ∧ ((loadR st ca a).1 = 0 → ix = (newS (readL st ca a 16)).1 ∧ Sec w' lv (readL st ca a 16)) ∧ Below X.heap.size X w') := hid (fun X e w' h => by
    obtain ⟨lv, pv, ix, h1, h2, _, _, h5⟩ := h
    exact ⟨lv, pv, ix, h1, h2, h5⟩)
  obtain ⟨L, hL⟩ : ∃ z, readL st ca a 16 = z := ⟨_, rfl⟩
  have HC0 : Hid (storC st ca a p = if storE st ca a p = 0 then repC (if (newS L).1 = 0 then a + 8 else a) (secsN (grt L + 1) 8 (conL p)) else []) := hid (by
    unfold storC
    rw [hL])
  have HE : Hid ((loadR st ca a).1 = 0 → storE st ca a p = if 31 < p.length then 5 else if grt L = 4294967295 then 11 else 0) := hid (fun h => by
    unfold storE
    rw [if_pos (hlr h).1, if_pos (hlr h).2, hL])
  have HLL : Hid ((loadR st ca a).1 = 0 → L.length = 16 ∧ 0 ≤ a ∧ a ≤ 4080) := hid (fun h => by rw [← hL]; exact hL16 (hlr h).1)
  have HSE := hid hse
  rw [hL] at HFQ
  obtain ⟨r, hr9⟩ : ∃ r, loadR st ca a = r := ⟨_, rfl⟩
  rw [hr9] at HFQ HLL HE HSE
  obtain ⟨er, p9, k9⟩ := r
  obtain ⟨E, hE⟩ : ∃ r, storE st ca a p = r := ⟨_, rfl⟩
  obtain ⟨C, hC⟩ : ∃ r, storC st ca a p = r := ⟨_, rfl⟩
  rw [hE] at HE HC0 HSE ⊢
  rw [hC] at HC0 ⊢
  obtain ⟨pm, hpm⟩ : ∃ n, p.length = n := ⟨_, rfl⟩
  have HP := hid hp
  have HPM := hid hpm
  rw [hpm] at HP HE ⊢
  clear hs hsn hc hb1 hx1 hW1 hg hn hm hr9 hL hE hC hp hpm hL16 hlr hse
  go_enter Try.func19, Try.ntmps19
  go_upto_region 1 with fail
  rw [HW1.out, HG.out]
  by_cases h0 : er = 0
  · subst h0
    have hE := HE.out rfl
    obtain ⟨hl16, ha0, ha1⟩ := HLL.out rfl
    go_upto_region 4 with (go_at_call 36; refine HFD.out.mono ?_; intro e X hQ; obtain ⟨lv, qv, ix, rfl, hix, hb⟩ := HFQ.out _ _ _ hQ; have HIX := hid hix; have HB := hid (below_both HB1.out hb); clear hQ hix hb)
    obtain ⟨hix, hsl⟩ := HIX.out (by trivial)
    obtain ⟨A8, c8, rfl⟩ := sec_form hsl
    have HS := hid hsl
    have HIX2 := hid hix
    have HL16 := hid hl16
    rw [hl16] at HS ⊢
    have hi1 : ix ≤ 1 := hix ▸ nst_idx L 2 (Nat.le_refl _)
    clear hsl hix HIX hl16
    by_cases hpl : 31 < pm
    · obtain rfl : E = 5 := by rw [hE, if_pos hpl]
      obtain rfl : C = [] := by rw [HC0.out]; rfl
      have d31 : decide (31 < (pm : Int)) = true := decide_eq_true (by omega)
      have d31' : decide (31 < pm) = true := decide_eq_true hpl
      clear hE
      go_wp2_with (go_at_call 30; refine (refCapacity_any X).mono ?_; rintro e X1 ⟨rfl, rfl⟩)
      go_ret2
      exact madeOps_er HB.out
    rw [if_neg hpl] at hE
    have HEE := hid hE
    have d31 : decide (31 < (pm : Int)) = false := decide_eq_false (by omega)
    have d31' : decide (31 < pm) = false := decide_eq_false hpl
    clear hE
    go_upto_region 8 with (go_at_call 30; refine (refCapacity_any X).mono ?_; rintro e X1 ⟨rfl, rfl⟩)
    go_loopw [14, 13] (fun iv gv wr => ∃ j : Nat, j ≤ 16 ∧ iv = .int .i64 (j : Int) ∧ gv = .int .u32 (grt (L.take j) : Int) ∧ Hid (Below w.heap.size w wr) ∧ Hid (Below X1.heap.size X1 wr)) (fun iv _ _ => 16 - (Go.RowKit.intOf iv).toNat)
    case atStart => exact ⟨0, Nat.zero_le _, rfl, rfl, HB, hid (Below.refl _ _)⟩
    case round =>
      obtain ⟨j, hj, rfl, rfl, HBw, HBX⟩ := hrel
      by_cases hj16 : j < 16
      · have d0 : decide ((j : Int) < 16) = true := decide_eq_true (by omega)
        have hj' : (j : Int) < 16 := by omega
        have hs := HS.out.below HBX.out
        obtain ⟨b, off, rfl, hb, hc⟩ := arr_at1 hs.2 (by rw [List.length_map, HL16.out]; decide)
        obtain ⟨s, hx⟩ : ∃ s, L[j]? = some s := ⟨L[j]'(by rw [HL16.out]; exact hj16), List.getElem?_eq_getElem _⟩
        have h8 := hs.1 s (List.mem_of_getElem? hx)
        have HC := hid (fun (t : Nat) (u : Value) (hu : (cSec s)[t]? = some u) => hc j _ (by rw [List.getElem?_map, hx]; rfl) t u hu)
        have HT := hid (show grt (L.take (j + 1)) = max (grt (L.take j)) (num4 s) from by rw [List.take_add_one, hx]; exact grt_snoc _ _)
        obtain ⟨s0, s1, s2, s3, s4, s5, s6, s7, rfl⟩ := list8 h8.1
        have HNU := hid (refGeneration_any s0 s1 s2 s3 s4 s5 s6 s7 h8.2 wr)
        obtain ⟨q, hq⟩ : ∃ q, num4 [s0, s1, s2, s3, s4, s5, s6, s7] = q := ⟨_, rfl⟩
        obtain ⟨gg, hgg⟩ : ∃ q, grt (L.take j) = q := ⟨_, rfl⟩
        rw [hq] at HNU HT
        rw [hgg] at HT ⊢
        have k0 : wr.cell? ⟨b, off + j * 8, none⟩ = some (.int .u8 (s0 : Int)) := HC.out 0 _ rfl
        have k1 : wr.cell? ⟨b, off + j * 8 + 1, none⟩ = some (.int .u8 (s1 : Int)) := HC.out 1 _ rfl
        have k2 : wr.cell? ⟨b, off + j * 8 + 2, none⟩ = some (.int .u8 (s2 : Int)) := HC.out 2 _ rfl
        have k3 : wr.cell? ⟨b, off + j * 8 + 3, none⟩ = some (.int .u8 (s3 : Int)) := HC.out 3 _ rfl
        have k4 : wr.cell? ⟨b, off + j * 8 + 4, none⟩ = some (.int .u8 (s4 : Int)) := HC.out 4 _ rfl
        have k5 : wr.cell? ⟨b, off + j * 8 + 5, none⟩ = some (.int .u8 (s5 : Int)) := HC.out 5 _ rfl
        have k6 : wr.cell? ⟨b, off + j * 8 + 6, none⟩ = some (.int .u8 (s6 : Int)) := HC.out 6 _ rfl
        have k7 : wr.cell? ⟨b, off + j * 8 + 7, none⟩ = some (.int .u8 (s7 : Int)) := HC.out 7 _ rfl
        clear hs hx h8 hc hq hgg
        go_wp2_with (go_at_call 38; refine HNU.out.mono ?_; rintro e X2 ⟨rfl, hb1⟩; have HB1' : Hid (Below w.heap.size w X2) := hid (HBw.out.trans (hb1.mono HBw.out.size)); have HBX1 : Hid (Below X1.heap.size X1 X2) := hid (HBX.out.trans (hb1.mono HBX.out.size)); clear hb1)
        go_roundw
        case rel => exact ⟨j + 1, by omega, by go_num, by rw [HT.out]; first | rfl | (congr 1; omega), HB1', HBX1⟩
        case measure => simp [Go.RowKit.intOf]; omega
      · obtain rfl : j = 16 := by omega
        have d0 : decide (((16 : Nat) : Int) < 16) = false := by decide
        have hTA : L.take 16 = L := List.take_of_length_le (by rw [HL16.out]; exact Nat.le_refl _)
        obtain ⟨gg, hgg⟩ : ∃ q, grt L = q := ⟨_, rfl⟩
        have hggl : gg < 4294967296 := hgg ▸ grt_lt HS.out.1
        rw [hTA, hgg]
        rw [hgg] at HEE HC0
        have HCX := HC0
        rw [← HIX2.out] at HCX
        clear hTA hgg
        by_cases hgm : gg = 4294967295
        · obtain rfl : E = 11 := by rw [HEE.out, if_pos hgm]
          obtain rfl : C = [] := by rw [HC0.out]; rfl
          have dgm : ((gg : Int) == 4294967295) = true := by rw [hgm]; rfl
          clear hgm
          go_wp2_with fail
          go_ret2
          exact madeOps_er HBw.out
        have dgm : ((gg : Int) == 4294967295) = false := by rw [beq_eq_false_iff_ne]; omega
        obtain rfl : E = 0 := by rw [HEE.out, if_neg hgm]
        obtain ⟨SN, hSN⟩ : ∃ X, secsN (gg + 1) 8 (conL p) = X := ⟨_, rfl⟩
        have HSN : Hid (Secs SN ∧ SN.length = 8) := hid (by
          have hc8 : B8 (conL p) := conL_b8 (by have := HPM.out; omega) HP.out.1
          exact hSN ▸ ⟨secsN_secs _ 8 _ hc8 (by rw [conL_len (by have := HPM.out; omega)]), secsN_len _ 8 _⟩)
        have HC31 : Hid (Calls Try.prog 31 #[.int .u32 ((gg : Int) + 1), .slice PA pm pc] wr fun e w' => ∃ u, e = .returned u ∧ w'.ownsRow wr.heap.size 57 8 u 8 (SN.map cSec).flatten ∧ Below wr.heap.size wr w') := hid (by
          have h := refCopy_any (gg + 1) p _ wr (HP.out.below HBw.out) (by have := HPM.out; omega) (by omega)
          unfold MadeS at h
          rw [hSN, HSN.out.2] at h
          exact h)
        rw [hSN] at HCX
        have hwg : IntKind.u32.wrap ((gg : Int) + 1) = (gg : Int) + 1 := by rw [IntKind.wrap_u32]; omega
        have hwa : IntKind.i64.wrap (a + 8) = a + 8 := by rw [IntKind.wrap_i64]; omega
        clear hSN hgm
        obtain rfl | rfl : ix = 0 ∨ ix = 1 := by omega
        · obtain rfl : C = repC (a + 8) SN := by rw [HCX.out]; rfl
          have HRA : Hid (R64 (a + 8)) := hid ⟨by omega, by omega⟩
          go_wp2_with (go_at_call 31; refine HC31.out.mono ?_; rintro e Y1 ⟨v24, rfl, ho24, hb01⟩; have HS24 := hid (sec_of_own24 ho24 HSN.out); have HN24 := hid (own_nilOkE ho24); have HBY1 : Hid (Below w.heap.size w Y1) := hid (HBw.out.trans (hb01.mono HBw.out.size)); obtain ⟨A24, c24, rfl⟩ := own_formE ho24; clear ho24 hb01)
          go_ret2
          refine ⟨_, repO (a + 8) (.slice A24 8 c24) SN, rfl, ?_, nilOk_some _ _ _, rfl, HBY1.out.alloc HBY1.out.size _⟩
          refine ops_of_own (B := Y1.heap.size) ⟨rfl, .inr ⟨Y1.heap.size, 2, _, rfl, Nat.le_refl _, heap_alloc_new Y1 _, Nat.le_refl _, by unfold maxLen; omega, rfl, rfl⟩⟩ rfl (repO_ok (HS24.out.below (al1 _ _)) HN24.out HRA.out)
        · obtain rfl : C = repC a SN := by rw [HCX.out]; rfl
          have HRA : Hid (R64 a) := hid ⟨by omega, by omega⟩
          have h88 : a + 8 - 8 = a := by omega
          go_wp2_with (go_at_call 31; refine HC31.out.mono ?_; rintro e Y1 ⟨v24, rfl, ho24, hb01⟩; have HS24 := hid (sec_of_own24 ho24 HSN.out); have HN24 := hid (own_nilOkE ho24); have HBY1 : Hid (Below w.heap.size w Y1) := hid (HBw.out.trans (hb01.mono HBw.out.size)); obtain ⟨A24, c24, rfl⟩ := own_formE ho24; clear ho24 hb01)
          go_ret2
          refine ⟨_, repO a (.slice A24 8 c24) SN, rfl, ?_, nilOk_some _ _ _, rfl, HBY1.out.alloc HBY1.out.size _⟩
          refine ops_of_own (B := Y1.heap.size) ⟨rfl, .inr ⟨Y1.heap.size, 2, _, rfl, Nat.le_refl _, heap_alloc_new Y1 _, Nat.le_refl _, by unfold maxLen; omega, rfl, rfl⟩⟩ rfl (repO_ok (HS24.out.below (al1 _ _)) HN24.out HRA.out)
  · obtain rfl : E = er := HSE.out h0
    obtain rfl : C = [] := by rw [HC0.out, if_neg h0]
    have hne : (E != 0) = true := by rw [bne_iff_ne]; exact h0
    go_wp2_with (go_at_call 36; refine HFD.out.mono ?_; intro e X hQ; obtain ⟨lv, qv, ix, rfl, _, hb⟩ := HFQ.out _ _ _ hQ; have HB := hid (below_both HB1.out hb); clear hQ hb)
    go_ret2
    exact madeOps_er HB.out
end Go.Proofs.Ytnocgfhcamnjdaa
