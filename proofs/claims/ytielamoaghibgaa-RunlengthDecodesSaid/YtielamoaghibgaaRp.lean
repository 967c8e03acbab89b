/- awake. -/
import Derived.Test.YtielamoaghibgaaRo
namespace Go.Proofs.Ytielamoaghibgaa
open Go.RowKit Go.Lib

def rlF : Nat → List Sect → List Nat
  | 0, _ => []
  | f + 1, l => if l = [] then [] else encG l ++ rlF f (l.drop (cnt l))
theorem rl_rlF (f : Nat) : ∀ l : List Sect, l.length ≤ f → rl l = rlF f l := by
  induction f with
  | zero => intro l hl; rw [List.eq_nil_of_length_eq_zero (Nat.le_zero.1 hl), rl_nil]; rfl
  | succ f ih =>
    intro l hl
    rw [rlF]
    by_cases h0 : l = []
    · rw [if_pos h0, h0, rl_nil]
    · have hc := cnt_pos h0
      rw [if_neg h0, rl_cons h0, ih _ (by rw [List.length_drop]; have := List.length_pos_iff.2 h0; omega)]
theorem ex1 : rl ([1, 1, 1, 2, 3, 0, 0].map tg) = ec [13, -1, 8, -2, -3, 10] := by rw [rl_rlF 7 _ (by decide)]; decide +kernel
theorem ex2 : rl ([2, 3, 3].map tg) = ec [4, -2, 9, -3] := by rw [rl_rlF 3 _ (by decide)]; decide +kernel
theorem ex3 : rl ([0].map tg) = [6] := by rw [rl_rlF 1 _ (by decide)]; decide +kernel
theorem ex4 : dec 9 (ec [8, -2, -2]) = .error 3 := by
  have h1 : dA 9 [] (ec [8, -2, -2]) = .ok [tg 2, tg 2] := by kernel_rfl
  have h2 : rl [tg 2, tg 2] ≠ ec [8, -2, -2] := by rw [rl_rlF 2 _ (by decide)]; decide +kernel
  unfold dec; rw [h1]; exact if_neg h2
theorem ex5 : dec 9 (ec [6, 6]) = .error 3 := by
  have h1 : dA 9 [] (ec [6, 6]) = .ok [tg 0, tg 0] := by kernel_rfl
  have h2 : rl [tg 0, tg 0] ≠ ec [6, 6] := by rw [rl_rlF 2 _ (by decide)]; decide +kernel
  unfold dec; rw [h1]; exact if_neg h2
theorem ex6 : dec 1 (ec [10]) = .error 5 := by
  have h1 : dA 1 [] (ec [10]) = .error 5 := by kernel_rfl
  unfold dec; rw [h1]
theorem ex7 : dec 9 (ec [5, -1]) = .error 3 := by
  have h1 : dA 9 [] (ec [5, -1]) = .ok [tg 1] := by kernel_rfl
  have h2 : rl [tg 1] ≠ ec [5, -1] := by rw [rl_rlF 1 _ (by decide)]; decide +kernel
  unfold dec; rw [h1]; exact if_neg h2
theorem ex8 : dec 7 (ec [13, -1, 8, -2, -3, 10]) = .ok ([1, 1, 1, 2, 3, 0, 0].map tg) := by
  rw [← ex1]
  exact dec_back (l := [1, 1, 1, 2, 3, 0, 0].map tg) (by unfold Secs8 B8; decide +kernel) (by decide)

theorem tags_sec (s : List Nat) (w : World) (h8 : B8 s) (hl : s.length ≤ 100) :
    Calls Try.prog 21 #[.slice (some ⟨w.heap.size, 0, none⟩) s.length s.length] (w.alloc (.cells (s.map fun (x : Nat) => Value.int .u8 (x : Int)).toArray 5)) fun e w' => ∃ v', e = .returned v' ∧ Sec w' v' (s.map tg) ∧ Below w.heap.size w w' := by
  refine (tags_any s _ _ (byt_lit w s h8 (by unfold maxLen; omega)) (by omega)).mono ?_
  rintro e w1 ⟨v1, rfl, ho, hb⟩
  exact ⟨v1, rfl, sec_of_own (by rw [List.length_map]; exact ho) (tg_secs h8), al_back hb⟩
theorem enc_lit (l : List Int) (w : World) (hl : l.length ≤ 100) (hz : ∀ z ∈ l, -256 < z ∧ z < 256) :
    Calls Try.prog 22 #[.slice (some ⟨w.heap.size, 0, none⟩) l.length l.length] (w.alloc (.cells (l.map fun (x : Int) => Value.int .i64 x).toArray 3)) (MadeY w (ec l)) := by
  refine (encoded_any l _ _ (arr_new w 3 1 l.length (l.map cInt) _ (fun r hr => by obtain ⟨x, _, rfl⟩ := List.mem_map.1 hr; rfl) (by simp) (by unfold maxLen; omega) ?_) hl hz).mono ?_
  · congr 1
    induction l with
    | nil => rfl
    | cons a l ih => simp only [List.map_cons, List.flatten_cons, cInt]; rw [ih (by simp at hl; omega) (fun z h => hz z (List.mem_cons_of_mem _ h))]; rfl
  · rintro e w1 ⟨v1, rfl, ho, hb⟩
    exact ⟨v1, rfl, byt_of_own ho (ec_b8 hz), own_nilOk ho, al_back hb⟩
theorem dec_er {w w' : World} {b : List Nat} {m : Nat} {e : Ending} {er : Int} (h : DecQ w b m e w') (hd : dec m b = .error er) : e = .returned (.tuple #[.slice none 0 0, .int .i64 er]) ∧ Below w.heap.size w w' := by
  obtain ⟨hb, ⟨l, lv, h1, _⟩ | ⟨er', h1, rfl⟩⟩ := h
  · rw [hd] at h1; cases h1
  · rw [hd] at h1; cases h1; exact ⟨rfl, hb⟩
theorem dec_li {w w' : World} {b : List Nat} {m : Nat} {e : Ending} {l : List Sect} (h : DecQ w b m e w') (hd : dec m b = .ok l) : ∃ v, e = .returned (.tuple #[v, .int .i64 0]) ∧ Below w.heap.size w w' ∧ Sec w' v l := by
  obtain ⟨hb, ⟨l', lv, h1, rfl, hs, ho⟩ | ⟨er', h1, _⟩⟩ := h
  · rw [hd] at h1; cases h1; exact ⟨lv, rfl, hb, sec_of_own ho hs⟩
  · rw [hd] at h1; cases h1

set_option maxHeartbeats 4000000 in
set_option maxRecDepth 100000 in
theorem awake_any (w : World) : Calls Try.prog 10 #[] w fun e w' => e = .returned (.bool true) ∧ Below w.heap.size w w' := by
  have T1 := hid (fun W : World => tags_sec [1, 1, 1, 2, 3, 0, 0] W (by unfold B8; decide) (by decide))
  have T2 := hid (fun W : World => tags_sec [2, 3, 3] W (by unfold B8; decide) (by decide))
  have T3 := hid (fun W : World => tags_sec [0] W (by unfold B8; decide) (by decide))
  have E4 := hid (fun W : World => enc_lit [8, -2, -2] W (by decide) (by decide))
  have E5 := hid (fun W : World => enc_lit [6, 6] W (by decide) (by decide))
  have E6 := hid (fun W : World => enc_lit [10] W (by decide) (by decide))
  have E7 := hid (fun W : World => enc_lit [5, -1] W (by decide) (by decide))
  have E1 := hid (fun W : World => enc_lit [13, -1, 8, -2, -3, 10] W (by decide) (by decide))
  have E2 := hid (fun W : World => enc_lit [4, -2, 9, -3] W (by decide) (by decide))
  go_enter Try.func10, Try.ntmps10
  go_wp2_with fail
  refine (T1.out w).mono ?_
  rintro e w1 ⟨v1, rfl, hs, hb⟩
  have HB1 := hid hb
  have HC := hid (encode_any _ v1 w1 hs (by decide))
  rw [ex1] at HC
  clear hs hb
  go_wp2_with fail
  refine HC.out.mono ?_
  rintro e w2 ⟨v2, rfl, ho, hb⟩
  have HB2 := hid (below_both HB1.out hb)
  have HV2 := hid (byt_of_own ho (ec_b8 (by decide)))
  have HN2 := hid (own_nilOk ho)
  clear ho hb HC HB1
  go_wp2_with fail
  refine (T2.out w2).mono ?_
  rintro e w3 ⟨v3, rfl, hs, hb⟩
  have HB3 := hid hb
  have HC := hid (encode_any _ v3 w3 hs (by decide))
  rw [ex2] at HC
  clear hs hb
  go_wp2_with fail
  refine HC.out.mono ?_
  rintro e w4 ⟨v4, rfl, ho, hb⟩
  have HB4 := hid (below_both HB3.out hb)
  have HV4 := hid (byt_of_own ho (ec_b8 (by decide)))
  clear ho hb HC HB3
  go_wp2_with fail
  refine (E4.out w4).mono ?_
  rintro e w5 ⟨v5, rfl, hv, hn, hb⟩
  have HB5 := hid hb
  have HC := hid (decode_any _ v5 9 w5 hv hn (by decide))
  rw [show capm 9 = 9 by decide] at HC
  clear hv hn hb
  go_wp2_with fail
  refine HC.out.mono ?_
  rintro e w6 h
  obtain ⟨rfl, hb⟩ := dec_er h ex4
  have HB6 := hid (below_both HB5.out hb)
  clear h hb HC HB5
  go_wp2_with fail
  refine (E5.out w6).mono ?_
  rintro e w7 ⟨v7, rfl, hv, hn, hb⟩
  have HB7 := hid hb
  have HC := hid (decode_any _ v7 9 w7 hv hn (by decide))
  rw [show capm 9 = 9 by decide] at HC
  clear hv hn hb
  go_wp2_with fail
  refine HC.out.mono ?_
  rintro e w8 h
  obtain ⟨rfl, hb⟩ := dec_er h ex5
  have HB8 := hid (below_both HB7.out hb)
  clear h hb HC HB7
  go_wp2_with fail
  refine (E6.out w8).mono ?_
  rintro e w9 ⟨v9, rfl, hv, hn, hb⟩
  have HB9 := hid hb
  have HC := hid (decode_any _ v9 1 w9 hv hn (by decide))
  rw [show capm 1 = 1 by decide] at HC
  clear hv hn hb
  go_wp2_with fail
  refine HC.out.mono ?_
  rintro e w10 h
  obtain ⟨rfl, hb⟩ := dec_er h ex6
  have HB10 := hid (below_both HB9.out hb)
  clear h hb HC HB9
  go_wp2_with fail
  refine (E7.out w10).mono ?_
  rintro e w11 ⟨v11, rfl, hv, hn, hb⟩
  have HB11 := hid hb
  have HC := hid (decode_any _ v11 9 w11 hv hn (by decide))
  rw [show capm 9 = 9 by decide] at HC
  clear hv hn hb
  go_wp2_with fail
  refine HC.out.mono ?_
  rintro e w12 h
  obtain ⟨rfl, hb⟩ := dec_er h ex7
  have HB12 := hid (below_both HB11.out hb)
  clear h hb HC HB11
  have HBv := hid (below_both HB4.out (below_both HB6.out (below_both HB8.out (below_both HB10.out HB12.out))))
  have HBw := hid (below_both HB6.out (below_both HB8.out (below_both HB10.out HB12.out)))
  have HB := hid (below_both HB2.out HBv.out)
  have HC := hid (decode_any _ v2 7 w12 (HV2.out.below HBv.out) HN2.out (by decide))
  rw [show capm 7 = 7 by decide] at HC
  go_wp2_with fail
  refine HC.out.mono ?_
  rintro e w13 h
  obtain ⟨v13, rfl, hb, hs⟩ := dec_li h ex8
  have HB13 := hid (below_both HB.out hb)
  have HV2 := hid ((HV2.out.below HBv.out).below hb)
  have HV4 := hid ((HV4.out.below HBw.out).below hb)
  have HS13 := hid hs
  clear h hb hs HC HB HBv HBw HB2 HB4 HB6 HB8 HB10 HB12
  go_wp2_with fail
  refine (E1.out w13).mono ?_
  rintro e w14 ⟨v14, rfl, hv, hn, hb⟩
  have HB14 := hid (below_both HB13.out hb)
  have HC := hid (equal_any _ _ v2 v14 w14 (HV2.out.below hb) hv)
  rw [decide_eq_true rfl] at HC
  have HV4b := hid (HV4.out.below hb)
  have HS14 := hid (HS13.out.below hb)
  clear hv hn hb HV2 HV4 HS13 HB13
  go_wp2_with fail
  refine HC.out.mono ?_
  rintro e w15 ⟨rfl, rfl⟩
  clear HC
  go_wp2_with fail
  refine (E2.out w14).mono ?_
  rintro e w16 ⟨v16, rfl, hv, hn, hb⟩
  have HB16 := hid (below_both HB14.out hb)
  have HC := hid (equal_any _ _ v4 v16 w16 (HV4b.out.below hb) hv)
  rw [decide_eq_true rfl] at HC
  have HS16 := hid (HS14.out.below hb)
  clear hv hn hb HV4b HS14 HB14
  go_wp2_with fail
  refine HC.out.mono ?_
  rintro e w17 ⟨rfl, rfl⟩
  clear HC
  go_wp2_with fail
  refine (T3.out w16).mono ?_
  rintro e w18 ⟨v18, rfl, hs, hb⟩
  have HB18 := hid (below_both HB16.out hb)
  have HC := hid (size_any _ v18 w18 hs (by decide))
  rw [ex3] at HC
  have HS18 := hid (HS16.out.below hb)
  clear hs hb HS16 HB16
  go_wp2_with fail
  refine HC.out.mono ?_
  rintro e w19 ⟨rfl, hb⟩
  have HB19 := hid (below_both HB18.out hb)
  have HS19 := hid (HS18.out.below hb)
  clear hb HC HS18 HB18
  go_wp2_with fail
  refine (T1.out w19).mono ?_
  rintro e w20 ⟨v20, rfl, hs, hb⟩
  have HB20 := hid (below_both HB19.out hb)
  have hs1 := HS19.out.below hb
  have HC := hid (eqSame_any _ _ v13 v20 w20 hs1.2 hs.2 hs1.1 hs.1)
  rw [decide_eq_true rfl] at HC
  clear hs hs1 hb HS19 HB19
  go_wp2_with fail
  refine HC.out.mono ?_
  rintro e w21 h
  obtain ⟨rfl, hb⟩ := saysQ_B h
  have HB21 := hid (below_both HB20.out hb)
  clear h hb
  go_wp2
  go_ret
  exact ⟨rfl, HB21.out⟩
end Go.Proofs.Ytielamoaghibgaa
