/- Superblock: the reference's find 36. -/
import Derived.Test.YtnocgfhcamnjdaaAv
namespace Go.Proofs.Ytnocgfhcamnjdaa
open Go.RowKit Go.Lib

theorem run_slice32h (b off c : Nat) (hc : 16 ≤ c) (W : World) : (Instr.slice 32 (.slice (some ⟨b, off, none⟩) 16 c) none (some (.int .i64 8)) none).run Try.prog W = .ok (.slice (some ⟨b, off, none⟩) 8 c) W := by
  simp [Instr.slice, run_underlying Try.underlying32, Instr.sliceBounds, Sem.run_bind, run_sliceBound_if]
  rw [if_pos (by omega)]
  simp
  intro _
  rw [add_at]
  rfl
theorem run_slice32t (b off c : Nat) (hc : 16 ≤ c) (W : World) : (Instr.slice 32 (.slice (some ⟨b, off, none⟩) 16 c) (some (.int .i64 8)) none none).run Try.prog W = .ok (.slice (some ⟨b, off + 64, none⟩) 8 (c - 8)) W := by
  simp [Instr.slice, run_underlying Try.underlying32, Instr.sliceBounds, Sem.run_bind, run_sliceBound_if]
  rw [if_neg (by omega), add_at]
/-- The newest copy in the reference's words. -/
theorem new_par {L : List Sect} (h : L.length = 16) : (newS L).2.2 = max (parR (L.take 8)).2 (parR (L.drop 8)).2 ∧ (0 < max (parR (L.take 8)).2 (parR (L.drop 8)).2 → (newS L).1 = (if (parR (L.take 8)).2 < (parR (L.drop 8)).2 then 1 else 0) ∧ payL (newS L).2.1 = (if (parR (L.take 8)).2 < (parR (L.drop 8)).2 then (parR (L.drop 8)).1 else (parR (L.take 8)).1)) := by
  have e0 : (L.drop (8 * 0)).take 8 = L.take 8 := by rw [Nat.mul_zero, List.drop_zero]
  have e1 : (L.drop (8 * 1)).take 8 = L.drop 8 := by rw [Nat.mul_one, List.take_of_length_le (by rw [List.length_drop]; omega)]
  have hs : ∀ (i : Nat) (b : Nat × Blk) (H : List Sect), nstep i b H = if okH H ∧ b.2.2 < num4 (H.getD 0 []) then (i, (dat H, num4 (H.getD 0 []))) else b := fun i b H => by
    unfold nstep okH
    by_cases h1 : (∀ s ∈ H, num4 s = num4 (H.getD 0 [])) ∧ valB (dat H) = true ∧ b.2.2 < num4 (H.getD 0 [])
    · rw [if_pos h1, if_pos ⟨⟨h1.1, h1.2.1⟩, h1.2.2⟩]
    · rw [if_neg h1, if_neg (fun h2 => h1 ⟨h2.1.1, h2.1.2, h2.2⟩)]
  have hz : payL (List.replicate 32 0) = [] := rfl
  unfold newS
  rw [nst, nst, e0, e1, hs, hs]
  unfold parR
  generalize L.take 8 = A
  generalize L.drop 8 = B
  generalize num4 (A.getD 0 []) = x
  generalize num4 (B.getD 0 []) = y
  unfold nst
  by_cases ha : okH A <;> by_cases hb : okH B <;> simp only [ha, hb, true_and, false_and, if_true, if_false]
  · by_cases hx : 0 < x
    · rw [if_pos hx]
      by_cases hxy : x < y
      · rw [if_pos hxy, if_pos hxy, if_pos hxy]
        exact ⟨by show y = _; omega, fun _ => ⟨rfl, rfl⟩⟩
      · rw [if_neg hxy, if_neg hxy, if_neg hxy]
        exact ⟨by show x = _; omega, fun _ => ⟨rfl, rfl⟩⟩
    · obtain rfl : x = 0 := by omega
      rw [if_neg hx]
      by_cases hxy : 0 < y
      · rw [if_pos hxy, if_pos hxy, if_pos hxy]
        exact ⟨by show y = _; omega, fun _ => ⟨rfl, rfl⟩⟩
      · rw [if_neg hxy]
        exact ⟨by show 0 = _; omega, fun h => by omega⟩
  · by_cases hx : 0 < x
    · rw [if_pos hx, if_neg (by omega), if_neg (by omega)]
      exact ⟨by show x = _; omega, fun _ => ⟨rfl, rfl⟩⟩
    · rw [if_neg hx]
      exact ⟨by show 0 = _; omega, fun h => by omega⟩
  · by_cases hy : 0 < y
    · rw [if_pos hy, if_pos hy, if_pos hy]
      exact ⟨by show y = _; omega, fun _ => ⟨rfl, rfl⟩⟩
    · rw [if_neg hy]
      exact ⟨by show 0 = _; omega, fun h => by omega⟩
  · exact ⟨by show 0 = _; omega, fun h => by omega⟩
theorem loadR_par {st : List Sect} {ca : List Ca} {a : Int} (h : readE st.length ca a 16 = 0) : loadR st ca a = (if (parR ((readL st ca a 16).take 8)).2 = 0 ∧ (parR ((readL st ca a 16).drop 8)).2 = 0 then (9, [], 0) else if (parR ((readL st ca a 16).take 8)).2 < (parR ((readL st ca a 16).drop 8)).2 then (0, parR ((readL st ca a 16).drop 8)) else (0, parR ((readL st ca a 16).take 8))) := by
  obtain ⟨h1, h2⟩ := new_par (readL_len h).1
  unfold loadR
  rw [if_pos h]
  by_cases hz : (parR ((readL st ca a 16).take 8)).2 = 0 ∧ (parR ((readL st ca a 16).drop 8)).2 = 0
  · rw [if_pos hz, if_neg (by rw [h1, hz.1, hz.2]; decide)]
  · have h3 := h2 (by omega)
    rw [if_neg hz, if_pos (by rw [h1]; omega), h3.2, h1]
    by_cases hlt : (parR ((readL st ca a 16).take 8)).2 < (parR ((readL st ca a 16).drop 8)).2
    · rw [if_pos hlt, if_pos hlt, Nat.max_eq_right (by omega)]
    · rw [if_neg hlt, if_neg hlt, Nat.max_eq_left (by omega)]
theorem num4_par {H : List Sect} (h : Secs H) (hl : 0 < H.length) : (parR H).2 < 4294967296 := by
  unfold parR
  split
  · refine num4_lt (h _ ?_).2
    rw [List.getD_eq_getElem?_getD, List.getElem?_eq_getElem hl]
    exact List.getElem_mem _
  · decide
def FinQ (w : World) (st : List Sect) (ca : List Ca) (a : Int) (e : Ending) (w' : World) : Prop := ∃ (lv pv : Value) (ix : Nat), e = .returned (.tuple #[lv, .int .i64 (ix : Int), pv, .int .u32 ((loadR st ca a).2.2 : Int), .int .i64 (loadR st ca a).1]) ∧ ((loadR st ca a).1 = 0 → ix = (newS (readL st ca a 16)).1 ∧ Sec w' lv (readL st ca a 16)) ∧ Byt w' pv (loadR st ca a).2.1 ∧ (lv = .slice none 0 0 ∨ (loadR st ca a).1 = 0) ∧ Below w.heap.size w w'
theorem finQ_err {w w' : World} {st : List Sect} {ca : List Ca} {a er : Int} (h : loadR st ca a = (er, [], 0)) (he : er ≠ 0) (hb : Below w.heap.size w w') : FinQ w st ca a (.returned (.tuple #[.slice none 0 0, .int .i64 0, .slice none 0 0, .int .u32 0, .int .i64 er])) w' := by
  refine ⟨.slice none 0 0, .slice none 0 0, 0, ?_, ?_, ?_, .inl rfl, hb⟩
  · rw [h]; rfl
  · rw [h]; exact fun h0 => absurd h0 he
  · rw [h]; exact byt_nil _
theorem finQ_ok {w w' : World} {st : List Sect} {ca : List Ca} {a : Int} {p : List Nat} {g : Nat} {lv pv : Value} (ix : Nat) (h : loadR st ca a = (0, p, g)) (hi : (newS (readL st ca a 16)).1 = ix) (hs : Sec w' lv (readL st ca a 16)) (hp : Byt w' pv p) (hb : Below w.heap.size w w') : FinQ w st ca a (.returned (.tuple #[lv, .int .i64 (ix : Int), pv, .int .u32 (g : Int), .int .i64 0])) w' := by
  refine ⟨lv, pv, ix, ?_, fun _ => ⟨hi.symm, hs⟩, ?_, .inr ?_, hb⟩
  · rw [h]
  · rw [h]; exact hp
  · rw [h]
theorem results5 {fn : Func} {t u v x y : Tmp} (h : fn.results = #[.tmp t, .tmp u, .tmp v, .tmp x, .tmp y]) (tmps : Array Value) (P : Program) (w : World) :
    (results fn tmps).run P w = .ok (.tuple #[tmps.getD t undef, tmps.getD u undef, tmps.getD v undef, tmps.getD x undef, tmps.getD y undef]) w := by
  simp [results, h]
set_option maxHeartbeats 4000000 in
set_option maxRecDepth 100000 in
theorem find_any (st : List Sect) (ca : List Ca) (sv cv : Value) (a : Int) (w : World) (hs : Sec w sv st) (hsn : NilOk sv) (hc : Cas w cv ca) (hr : R64 a) :
    Calls Try.prog 36 #[.agg #[sv, cv], .int .i64 a] w (FinQ w st ca a) := by
  obtain ⟨A, c, rfl⟩ := sec_form hs
  obtain ⟨B, d, rfl⟩ := cas_form hc
  obtain ⟨n, hn⟩ : ∃ n, st.length = n := ⟨_, rfl⟩
  obtain ⟨m, hm⟩ : ∃ n, ca.length = n := ⟨_, rfl⟩
  obtain ⟨g, hg⟩ : ∃ g, w.heap.size = g := ⟨_, rfl⟩
  obtain ⟨W1, hW1⟩ : ∃ X, w.alloc (.cells #[.slice A n c, .slice B m d] 35) = X := ⟨_, rfl⟩
  have hb1 : Below w.heap.size w W1 := by rw [← hW1]; exact al1 _ _
  have hx1 : W1.heap[g]? = some (.cells #[.slice A n c, .slice B m d] 35) := by rw [← hW1, ← hg]; exact heap_alloc_new _ _
  obtain ⟨cd, hcd⟩ : ∃ z, chkD st.length ca = z := ⟨_, rfl⟩
  have HCK : Hid (Calls Try.prog 48 #[.agg #[.slice A st.length c, .slice B ca.length d]] W1 fun e w' => e = .returned (.int .i64 cd) ∧ Below W1.heap.size W1 w') := hid (by rw [← hcd]; exact refCheck_any st ca _ _ W1 (hs.below hb1) (hc.below hb1))
  have HRD := hid (fun X (hX : Below W1.heap.size W1 X) => refRead_any st ca _ _ a 16 X (hs.below (hb1.trans (hX.mono hb1.size))) hsn (hc.below (hb1.trans (hX.mono hb1.size))) hr ⟨by omega, by omega⟩)
  have hns : st.length ≤ 9223372036854775807 := by
    have h := (arr_cap hs.2).2
    exact Nat.le_trans h.1 h.2
  have hRE : readE st.length ca a 16 = if cd ≠ 0 then cd else if insB st.length a 16 = false then 2 else 0 := by unfold readE; rw [hcd]
  rw [hn, hm] at HCK HRD
  rw [hn] at hns hRE
  have HN := hid hn
  rw [hn, hm]
  have x0 := cell_of_row _ _ 0 _ _ _ hx1
  have x1 := cell_of_row _ _ 1 _ _ _ hx1
  have HX1 := hid hx1
  have HB1 := hid hb1
  have HW1 := hid hW1
  have HG := hid hg
  have HRE := hid hRE
  have HR := hid hr
  clear hs hsn hc hb1 hx1 hW1 hg hn hm hcd hRE
  go_enter Try.func36, Try.ntmps36
  go_upto_region 1 with fail
  rw [HW1.out, HG.out]
  by_cases hcd0 : cd = 0
  · subst hcd0
    go_upto_region 4 with (go_at_call 48; refine HCK.out.mono ?_; rintro e X1 ⟨rfl, hb2⟩; have HBW : Hid (Below W1.heap.size W1 X1) := hid hb2; have hx2 := (hb2.block _ (box_lt HX1.out)).trans HX1.out; have HB2 := hid (below_both HB1.out hb2); clear hb2)
    have y0 := cell_of_row _ _ 0 _ _ _ hx2
    have y1 := cell_of_row _ _ 1 _ _ _ hx2
    clear x0 x1 hx2
    by_cases ha0 : a < 0
    · have hE : readE st.length ca a 16 = 2 := by
        rw [HN.out, HRE.out]
        have : insB n a 16 = false := by unfold insB; simp; omega
        rw [this]; simp
      have hLR : loadR st ca a = (2, [], 0) := by unfold loadR; rw [hE]; rfl
      have HLR := hid hLR
      have dA : decide (a < 0) = true := decide_eq_true ha0
      clear hE hLR
      go_wp2_with fail
      refine bodyPost_ret (results5 rfl _ _ _) rfl ?_
      exact finQ_err HLR.out (by decide) HB2.out
    have dA : decide (a < 0) = false := decide_eq_false ha0
    by_cases ha1 : (n : Int) - 16 < a
    · have hE : readE st.length ca a 16 = 2 := by
        rw [HN.out, HRE.out]
        have : insB n a 16 = false := by unfold insB; simp; omega
        rw [this]; simp
      have hLR : loadR st ca a = (2, [], 0) := by unfold loadR; rw [hE]; rfl
      have HLR := hid hLR
      have dB : decide ((n : Int) - 16 < a) = true := decide_eq_true ha1
      have hw16 : IntKind.i64.wrap ((n : Int) - 16) = (n : Int) - 16 := by rw [IntKind.wrap_i64]; omega
      clear hE hLR
      go_wp2_with fail
      refine bodyPost_ret (results5 rfl _ _ _) rfl ?_
      exact finQ_err HLR.out (by decide) HB2.out
    have dB : decide ((n : Int) - 16 < a) = false := decide_eq_false ha1
    have hw16 : IntKind.i64.wrap ((n : Int) - 16) = (n : Int) - 16 := by rw [IntKind.wrap_i64]; omega
    have hE : readE st.length ca a 16 = 0 := by
      rw [HN.out, HRE.out]
      have : insB n a 16 = true := by unfold insB; simp; omega
      rw [this]; simp
    obtain ⟨hLl, _, _⟩ := readL_len hE
    have hLR := loadR_par hE
    obtain ⟨hN1, hN2⟩ := new_par hLl
    obtain ⟨L, hL⟩ : ∃ L, readL st ca a 16 = L := ⟨_, rfl⟩
    rw [hL] at hLl hLR hN1 hN2
    have HRO : Hid (∀ X e w', ReadQ X st ca a 16 e w' → ∃ A c, e = .returned (.tuple #[.slice A 16 c, .int .i64 0]) ∧ Sec w' (.slice A 16 c) L ∧ Below X.heap.size X w') := hid (fun X e w' h => by
      have h := readQ_open h
      rw [hL, hE, hLl] at h
      exact h)
    obtain ⟨r0, hr0⟩ : ∃ r, parR (L.take 8) = r := ⟨_, rfl⟩
    obtain ⟨r1, hr1⟩ : ∃ r, parR (L.drop 8) = r := ⟨_, rfl⟩
    rw [hr0, hr1] at hLR hN1 hN2
    have HLR := hid hLR
    have HN1 := hid hN1
    have HN2 := hid hN2
    have HLe := hid hL
    have HP0 : Hid (∀ X b off c, 16 ≤ c → Sec X (.slice (some ⟨b, off, none⟩) 16 c) L → Calls Try.prog 50 #[.slice (some ⟨b, off, none⟩) 8 c] X (ParQ X r0)) := hid (fun X b off c hc h => by
      rw [← hr0]
      refine parse_any _ _ X ⟨fun s hs => h.1 s (List.mem_of_mem_take hs), ?_⟩ (by rw [List.length_take]; omega)
      have h2 := arr_mid h.2 0 8 (by omega) (by rw [List.length_map, hLl]; omega)
      unfold fromN at h2
      rw [if_neg (by omega), Option.map_some, add_at, List.drop_zero, ← List.map_take] at h2
      exact h2)
    have HP1 : Hid (∀ X b off c, 16 ≤ c → Sec X (.slice (some ⟨b, off, none⟩) 16 c) L → Calls Try.prog 50 #[.slice (some ⟨b, off + 64, none⟩) 8 (c - 8)] X (ParQ X r1)) := hid (fun X b off c hc h => by
      rw [← hr1]
      refine parse_any _ _ X ⟨fun s hs => h.1 s (List.mem_of_mem_drop hs), ?_⟩ (by rw [List.length_drop]; omega)
      have h2 := arr_mid h.2 8 16 (by omega) (by rw [List.length_map, hLl]; omega)
      unfold fromN at h2
      rw [if_neg (by omega), Option.map_some, add_at, show 16 - 8 = 8 from rfl, List.take_of_length_le (by rw [List.length_drop, List.length_map]; omega), ← List.map_drop] at h2
      exact h2)
    have HLL := hid hLl
    obtain ⟨p0, g0⟩ := r0
    obtain ⟨p1, g1⟩ := r1
    clear hLR hN1 hN2 hL hE hr0 hr1
    have hbld : ∀ W, (Instr.build 97 #[(0, .int .i64 a), (1, .int .i64 16)]).run Try.prog W = .ok (.agg #[.int .i64 a, .int .i64 16]) W := fun W => run_build W 97 _ _ (by kernel_rfl)
    go_upto_region 7 with (go_at_call 49; refine (HRD.out X1 HBW.out).mono ?_; intro e X2 hQ; obtain ⟨A8, c8, rfl, hs8, hb8⟩ := HRO.out _ _ _ hQ; have HS8 := hid hs8; have HB3 := hid (below_both HB2.out hb8); clear hQ hs8 hb8)
    obtain ⟨b, off, rfl, _, _⟩ := arr_at1 HS8.out.2 (by rw [List.length_map, HLL.out]; decide)
    have hc8 : 16 ≤ c8 := by
      have h := (arr_cap HS8.out.2).2.1
      exact h
    have hsl0 := fun W => run_slice32h b off c8 hc8 W
    have hsl1 := fun W => run_slice32t b off c8 hc8 W
    have HF := hid (HP0.out X2 b off c8 hc8 HS8.out)
    have HSB9 : Hid (∀ X, Below X2.heap.size X2 X → Calls Try.prog 50 #[.slice (some ⟨b, off + 64, none⟩) 8 (c8 - 8)] X (ParQ X (p1, g1))) := hid (fun X hX => HP1.out X b off c8 hc8 (HS8.out.below hX))
    clear HP0 HP1 hLl hc8 y0 y1
    go_upto_region 9 with (first
      | (go_at_call 50; refine (HSB9.out X3 HBX3.out).mono ?_; rintro e X4 ⟨v1, rfl, hy1, hb34⟩; have HBX4 : Hid (Below X2.heap.size X2 X4) := hid (HBX3.out.trans (hb34.mono HBX3.out.size)); have HV1 := hid hy1; have HV0b := hid (HV0.out.below hb34); clear hy1 hb34)
      | (go_at_call 50; refine HF.out.mono ?_; rintro e X3 ⟨v0, rfl, hy0, hb23⟩; have HBX3 := hid hb23; have HV0 := hid hy0; clear hy0 hb23))
    have HBZ : Hid (Below w.heap.size w X4) := hid (HB3.out.trans (HBX4.out.mono HB3.out.size))
    have HSZ := hid (HS8.out.below HBX4.out)
    by_cases hz : g0 = 0 ∧ g1 = 0
    · obtain ⟨rfl, rfl⟩ := hz
      have HLR2 : Hid (loadR st ca a = (9, [], 0)) := hid (by rw [HLR.out]; rfl)
      go_wp2_with fail
      refine bodyPost_ret (results5 rfl _ _ _) rfl ?_
      exact finQ_err HLR2.out (by decide) HBZ.out
    · have hn2 := HN2.out (by show 0 < max g0 g1; omega)
      by_cases hlt : g0 < g1
      · have HLR2 : Hid (loadR st ca a = (0, p1, g1)) := hid (by rw [HLR.out, if_neg hz, if_pos hlt])
        rw [if_pos hlt] at hn2
        have HIX := hid hn2.1
        have e1 : ((g1 : Int) == 0) = false := by rw [beq_eq_false_iff_ne]; omega
        have d1 : decide ((g0 : Int) < (g1 : Int)) = true := decide_eq_true (by omega)
        have d1' : decide (g0 < g1) = true := decide_eq_true hlt
        clear hn2 hz
        by_cases hg0 : g0 = 0
        · have e0 : ((g0 : Int) == 0) = true := by rw [hg0]; rfl
          clear hg0
          go_wp2_with fail
          refine bodyPost_ret (results5 rfl _ _ _) rfl ?_
          exact finQ_ok 1 HLR2.out (by rw [HLe.out]; exact HIX.out) (by rw [HLe.out]; exact HSZ.out) HV1.out HBZ.out
        · have e0 : ((g0 : Int) == 0) = false := by rw [beq_eq_false_iff_ne]; omega
          go_wp2_with fail
          refine bodyPost_ret (results5 rfl _ _ _) rfl ?_
          exact finQ_ok 1 HLR2.out (by rw [HLe.out]; exact HIX.out) (by rw [HLe.out]; exact HSZ.out) HV1.out HBZ.out
      · have HLR2 : Hid (loadR st ca a = (0, p0, g0)) := hid (by rw [HLR.out, if_neg hz, if_neg hlt])
        rw [if_neg hlt] at hn2
        have HIX := hid hn2.1
        have e0 : ((g0 : Int) == 0) = false := by rw [beq_eq_false_iff_ne]; omega
        have d1 : decide ((g0 : Int) < (g1 : Int)) = false := decide_eq_false (by omega)
        have d1' : decide (g0 < g1) = false := decide_eq_false hlt
        clear hn2 hz
        go_wp2_with fail
        refine bodyPost_ret (results5 rfl _ _ _) rfl ?_
        exact finQ_ok 0 HLR2.out (by rw [HLe.out]; exact HIX.out) (by rw [HLe.out]; exact HSZ.out) HV0b.out HBZ.out
  · have hne : (cd != 0) = true := by rw [bne_iff_ne]; exact hcd0
    have hLR : loadR st ca a = (cd, [], 0) := by
      have hE : readE st.length ca a 16 = cd := by rw [HN.out, HRE.out, if_pos hcd0]
      unfold loadR
      rw [hE, if_neg hcd0]
    have HLR := hid hLR
    clear hLR
    go_wp2_with (go_at_call 48; refine HCK.out.mono ?_; rintro e X1 ⟨rfl, hb2⟩; have HB2 := hid (below_both HB1.out hb2); clear hb2)
    refine bodyPost_ret (results5 rfl _ _ _) rfl ?_
    exact finQ_err HLR.out hcd0 HB2.out
end Go.Proofs.Ytnocgfhcamnjdaa
