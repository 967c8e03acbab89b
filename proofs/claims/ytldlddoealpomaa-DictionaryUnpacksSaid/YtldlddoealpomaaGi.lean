/- awake. -/
import Derived.Test.YtldlddoealpomaaGh
import Derived.Lib.SlBytesConst
namespace Go.Proofs.Ytldlddoealpomaa.Rl
def rlF : Nat → List Sect → List Nat
  | 0, _ => []
  | f + 1, l => if l = [] then [] else encG l ++ rlF f (l.drop (cnt l))
theorem rl_rlF (f : Nat) : ∀ l : List Sect, l.length ≤ f → rl l = rlF f l := by
  induction f with
  | zero => intro l hl; rw [List.eq_nil_of_length_eq_zero (Nat.le_zero.1 hl), rl_nil]; rfl
  | succ f ih =>
    intro l hl
    rw [rlF]
    by_cases h0 : l = []
    · rw [if_pos h0, h0, rl_nil]
    · have hc := cnt_pos h0
      rw [if_neg h0, rl_cons h0, ih _ (by rw [List.length_drop]; have := List.length_pos_iff.2 h0; omega)]
end Go.Proofs.Ytldlddoealpomaa.Rl
namespace Go.Proofs.Ytldlddoealpomaa
open Go.RowKit Go.Lib
open Rl (Sect Sec Secs sec_form flat_len rl cSec)

theorem ex_pack : packL [] [[1, 2, 3, 4, 5, 6, 7, 8], [9, 10, 11, 12, 13, 14, 15, 16]] = [0, 1, 2, 3, 4, 5, 6, 7, 8, 9, 10, 11, 12, 13, 14, 15, 16] := by
  unfold packL; rw [Rl.rl_rlF 2 _ (by decide)]; decide +kernel
theorem ex_form : decL [] [128, 1] 100 = .error 3 := by rfl
theorem ex_torn : decL [] [2, 97] 100 = .error 10 := by rfl
theorem dec_err {w w' : World} {d b : List Nat} {m : Int} {e : Ending} {er : Int} (h : DecQ w d b m e w') (hd : decL d b m = .error er) : e = .returned (.tuple #[.slice none 0 0, .int .i64 er]) ∧ Below w.heap.size w w' := by
  obtain ⟨hb, ⟨er', h1, _, rfl⟩ | ⟨l, v, h1, _⟩⟩ := h
  · rw [hd] at h1; cases h1; exact ⟨rfl, hb⟩
  · rw [hd] at h1; cases h1
theorem dec_ok {w w' : World} {d b l : List Nat} {m : Int} {e : Ending} (h : DecQ w d b m e w') (hd : decL d b m = .ok l) : ∃ v, e = .returned (.tuple #[v, .int .i64 0]) ∧ Below w.heap.size w w' ∧ Byt w' v l ∧ NilOk v := by
  obtain ⟨hb, ⟨er', h1, _, rfl⟩ | ⟨l', v, h1, rfl, hv, hn⟩⟩ := h
  · rw [hd] at h1; cases h1
  · rw [hd] at h1; cases h1; exact ⟨v, rfl, hb, hv, hn⟩
theorem litF (l : List Nat) (W : World) (fr : Nat × Nat) (h8 : B8 l) (hl : l.length ≤ 100) : Byt (W.alloc (.cells (l.map fun (x : Nat) => Value.int .u8 (x : Int)).toArray 5 fr)) (.slice (some ⟨W.heap.size, 0, none⟩) l.length l.length) l := byt_new W l fr h8 (by unfold maxLen; omega)
theorem litB (l : List Nat) (W : World) (h8 : B8 l) (hl : l.length ≤ 100) : Byt (W.alloc (.cells (l.map fun (x : Nat) => Value.int .u8 (x : Int)).toArray 5)) (.slice (some ⟨W.heap.size, 0, none⟩) l.length l.length) l := byt_new W l (0, 0) h8 (by unfold maxLen; omega)
/-- The calls of awake. -/
theorem enc_a (w : World) : Calls Try.prog 14 #[.slice none 0 0, .slice (some ⟨w.heap.size, 0, none⟩) 10 10] (w.alloc (.cells #[.int .u8 97, .int .u8 98, .int .u8 99, .int .u8 97, .int .u8 98, .int .u8 99, .int .u8 97, .int .u8 98, .int .u8 99, .int .u8 100] 5 (10, 11))) (MadeY w [3, 97, 98, 99, 130, 3, 1, 100]) := by
  have h := encode_said [] [97, 98, 99, 97, 98, 99, 97, 98, 99, 100] _ _ _ (byt_nil _) nilOk_nil (litF [97, 98, 99, 97, 98, 99, 97, 98, 99, 100] w (10, 11) (by unfold B8; decide) (by decide)) (nilOk_some _ _ _) (by decide) (by decide)
  rw [ex_abc] at h
  refine h.mono ?_
  rintro e w1 ⟨v, rfl, ho, hb⟩
  exact ⟨v, rfl, byt_of_own ho (by unfold B8; decide), own_nilOk ho, al_back hb⟩
theorem enc_b (w : World) : Calls Try.prog 14 #[.slice (some ⟨w.heap.size, 0, none⟩) 4 4, .slice (some ⟨w.heap.size + 1, 0, none⟩) 4 4] ((w.alloc (.cells #[.int .u8 97, .int .u8 98, .int .u8 99, .int .u8 100] 5 (4, 5))).alloc (.cells #[.int .u8 97, .int .u8 98, .int .u8 99, .int .u8 100] 5 (4, 5))) (MadeY w [128, 4]) := by
  have h1 := litF [97, 98, 99, 100] w (4, 5) (by unfold B8; decide) (by decide)
  have h := encode_said [97, 98, 99, 100] [97, 98, 99, 100] _ _ _ (h1.below (al1 _ _)) (nilOk_some _ _ _) (litF [97, 98, 99, 100] (w.alloc (.cells #[.int .u8 97, .int .u8 98, .int .u8 99, .int .u8 100] 5 (4, 5))) (4, 5) (by unfold B8; decide) (by decide)) (nilOk_some _ _ _) (by decide) (by decide)
  rw [ex_abcd] at h
  have e : (w.alloc (.cells #[.int .u8 97, .int .u8 98, .int .u8 99, .int .u8 100] 5 (4, 5))).heap.size = w.heap.size + 1 := by simp
  rw [e] at h
  refine h.mono ?_
  rintro e w1 ⟨v, rfl, ho, hb⟩
  exact ⟨v, rfl, byt_of_own ho (by unfold B8; decide), own_nilOk ho, al_back (al_back hb)⟩
theorem dec_a (w : World) : Calls Try.prog 16 #[.slice none 0 0, .slice (some ⟨w.heap.size, 0, none⟩) 2 2, .int .i64 100] (w.alloc (.cells #[.int .u8 128, .int .u8 1] 5)) fun e w' => e = .returned (.tuple #[.slice none 0 0, .int .i64 3]) ∧ Below w.heap.size w w' := by
  refine (decode_any [] [128, 1] _ _ 100 _ (byt_nil _) nilOk_nil (litB [128, 1] w (by unfold B8; decide) (by decide)) (nilOk_some _ _ _) (by decide) (by decide) (by decide)).mono ?_
  intro e w1 h
  obtain ⟨rfl, hb⟩ := dec_err h ex_form
  exact ⟨rfl, al_back hb⟩
theorem dec_b (w : World) : Calls Try.prog 16 #[.slice none 0 0, .slice (some ⟨w.heap.size, 0, none⟩) 2 2, .int .i64 100] (w.alloc (.cells #[.int .u8 2, .int .u8 97] 5)) fun e w' => e = .returned (.tuple #[.slice none 0 0, .int .i64 10]) ∧ Below w.heap.size w w' := by
  refine (decode_any [] [2, 97] _ _ 100 _ (byt_nil _) nilOk_nil (litB [2, 97] w (by unfold B8; decide) (by decide)) (nilOk_some _ _ _) (by decide) (by decide) (by decide)).mono ?_
  intro e w1 h
  obtain ⟨rfl, hb⟩ := dec_err h ex_torn
  exact ⟨rfl, al_back hb⟩
theorem pack_a (w : World) : Calls Try.prog 18 #[.slice none 0 0, .slice (some ⟨w.heap.size, 0, none⟩) 2 2] (w.alloc (.cells #[.int .u8 1, .int .u8 2, .int .u8 3, .int .u8 4, .int .u8 5, .int .u8 6, .int .u8 7, .int .u8 8, .int .u8 9, .int .u8 10, .int .u8 11, .int .u8 12, .int .u8 13, .int .u8 14, .int .u8 15, .int .u8 16] 44)) (MadeY w [0, 1, 2, 3, 4, 5, 6, 7, 8, 9, 10, 11, 12, 13, 14, 15, 16]) := by
  have hs : Sec (w.alloc (.cells #[.int .u8 1, .int .u8 2, .int .u8 3, .int .u8 4, .int .u8 5, .int .u8 6, .int .u8 7, .int .u8 8, .int .u8 9, .int .u8 10, .int .u8 11, .int .u8 12, .int .u8 13, .int .u8 14, .int .u8 15, .int .u8 16] 44)) (.slice (some ⟨w.heap.size, 0, none⟩) 2 2) [[1, 2, 3, 4, 5, 6, 7, 8], [9, 10, 11, 12, 13, 14, 15, 16]] :=
    ⟨by unfold Secs B8; decide, Rl.arr_new w 44 8 2 _ _ (fun r hr => by rcases List.mem_cons.1 hr with rfl | hr; rfl; rw [List.mem_singleton.1 hr]; rfl) rfl (by unfold maxLen; omega) rfl⟩
  have h := pack_any [] _ _ _ _ (byt_nil _) nilOk_nil hs (by decide) (by decide)
  rw [ex_pack] at h
  refine h.mono ?_
  rintro e w1 ⟨v, rfl, ho, hb⟩
  exact ⟨v, rfl, byt_of_own ho (by unfold B8; decide), own_nilOk ho, al_back hb⟩
set_option maxHeartbeats 4000000 in
set_option maxRecDepth 100000 in
theorem awake_any (w : World) : Calls Try.prog 12 #[] w fun e w' => e = .returned (.bool true) ∧ Below w.heap.size w w' := by
  have hc1 : ∀ W : World, (convert 22 22 (.slice (some ⟨W.heap.size, 0, none⟩) 10 10)).run Try.prog (W.alloc (.cells #[.int .u8 97, .int .u8 98, .int .u8 99, .int .u8 97, .int .u8 98, .int .u8 99, .int .u8 97, .int .u8 98, .int .u8 99, .int .u8 100] 5)) = .ok (.slice (some ⟨W.heap.size, 0, none⟩) 10 10) (W.alloc (.cells #[.int .u8 97, .int .u8 98, .int .u8 99, .int .u8 97, .int .u8 98, .int .u8 99, .int .u8 97, .int .u8 98, .int .u8 99, .int .u8 100] 5 (10, 11))) := fun W => run_convert_bytes_const W 22 5 _ 10 10 Try.underlying22 Try.underlying5
  have hc2 : ∀ W : World, (convert 22 22 (.slice (some ⟨W.heap.size, 0, none⟩) 4 4)).run Try.prog (W.alloc (.cells #[.int .u8 97, .int .u8 98, .int .u8 99, .int .u8 100] 5)) = .ok (.slice (some ⟨W.heap.size, 0, none⟩) 4 4) (W.alloc (.cells #[.int .u8 97, .int .u8 98, .int .u8 99, .int .u8 100] 5 (4, 5))) := fun W => run_convert_bytes_const W 22 5 _ 4 4 Try.underlying22 Try.underlying5
  have hc3 : ∀ W : World, (convert 22 22 (.slice (some ⟨W.heap.size + 1, 0, none⟩) 4 4)).run Try.prog ((W.alloc (.cells #[.int .u8 97, .int .u8 98, .int .u8 99, .int .u8 100] 5 (4, 5))).alloc (.cells #[.int .u8 97, .int .u8 98, .int .u8 99, .int .u8 100] 5)) = .ok (.slice (some ⟨W.heap.size + 1, 0, none⟩) 4 4) ((W.alloc (.cells #[.int .u8 97, .int .u8 98, .int .u8 99, .int .u8 100] 5 (4, 5))).alloc (.cells #[.int .u8 97, .int .u8 98, .int .u8 99, .int .u8 100] 5 (4, 5))) := fun W => by
    have h := hc2 (W.alloc (.cells #[.int .u8 97, .int .u8 98, .int .u8 99, .int .u8 100] 5 (4, 5)))
    have e : (W.alloc (.cells #[.int .u8 97, .int .u8 98, .int .u8 99, .int .u8 100] 5 (4, 5))).heap.size = W.heap.size + 1 := by simp
    rw [e] at h
    exact h
  go_enter Try.func12, Try.ntmps12
  go_wp2_with fail
  refine (enc_a w).mono ?_
  rintro e w1 ⟨v1, rfl, hv, hn, hb⟩
  have HV1 := hid hv
  have HB1 := hid hb
  clear hv hn hb
  go_wp2_with fail
  refine (enc_b w1).mono ?_
  rintro e w2 ⟨v2, rfl, hv, hn, hb⟩
  have HV2 := hid hv
  have HV1 := hid (HV1.out.below hb)
  have HB2 := hid (below_both HB1.out hb)
  clear hv hn hb HB1
  go_wp2_with fail
  refine (dec_a w2).mono ?_
  rintro e w3 ⟨rfl, hb⟩
  have HV1 := hid (HV1.out.below hb)
  have HV2 := hid (HV2.out.below hb)
  have HB3 := hid (below_both HB2.out hb)
  clear hb HB2
  go_wp2_with fail
  refine (dec_b w3).mono ?_
  rintro e w4 ⟨rfl, hb⟩
  have HV1 := hid (HV1.out.below hb)
  have HV2 := hid (HV2.out.below hb)
  have HB4 := hid (below_both HB3.out hb)
  clear hb HB3
  go_wp2_with fail
  refine (pack_a w4).mono ?_
  rintro e w5 ⟨v5, rfl, hv, hn, hb⟩
  have HV1 := hid (HV1.out.below hb)
  have HV2 := hid (HV2.out.below hb)
  have HB5 := hid (below_both HB4.out hb)
  have HV5 := hid hv
  clear hv hn hb HB4
  go_wp2_with fail
  have hb6 := al1 w5 (.cells #[.int .u8 3, .int .u8 97, .int .u8 98, .int .u8 99, .int .u8 130, .int .u8 3, .int .u8 1, .int .u8 100] 5)
  have HC := hid (equal_any _ _ v1 _ (w5.alloc (.cells #[.int .u8 3, .int .u8 97, .int .u8 98, .int .u8 99, .int .u8 130, .int .u8 3, .int .u8 1, .int .u8 100] 5)) (HV1.out.below hb6) (litB [3, 97, 98, 99, 130, 3, 1, 100] w5 (by unfold B8; decide) (by decide)))
  rw [decide_eq_true rfl] at HC
  refine HC.out.mono ?_
  rintro e w6 ⟨rfl, hw⟩
  have hs6 : w5.heap.size ≤ w6.heap.size := by rw [← hw]; exact hb6.size
  have HV2 := hid (show Byt w6 v2 _ from hw ▸ HV2.out.below hb6)
  have HV5 := hid (show Byt w6 v5 _ from hw ▸ HV5.out.below hb6)
  have HB6 := hid (show Below w.heap.size w w6 from hw ▸ below_both HB5.out hb6)
  clear hw hb6 HC HB5
  go_wp2_with fail
  have hb7 := al1 w6 (.cells #[.int .u8 128, .int .u8 4] 5)
  have HC := hid (equal_any _ _ v2 _ (w6.alloc (.cells #[.int .u8 128, .int .u8 4] 5)) (HV2.out.below hb7) (litB [128, 4] w6 (by unfold B8; decide) (by decide)))
  rw [decide_eq_true rfl] at HC
  refine HC.out.mono ?_
  rintro e w7 ⟨rfl, hw⟩
  have HB7 := hid (show Below w.heap.size w w7 from hw ▸ below_both HB6.out hb7)
  have hv5 : Byt w7 v5 _ := hw ▸ HV5.out.below hb7
  obtain ⟨A5, c5, rfl⟩ := byt_form hv5
  obtain ⟨b5, o5, rfl, hlt5, hc5⟩ := byt_at hv5 (by decide)
  have p0 : w7.cell? ⟨b5, o5, none⟩ = some (.int .u8 0) := hc5 0 0 rfl
  clear hv5 hc5 hw hb7 HC HB6
  go_wp2_with fail
  go_ret
  exact ⟨rfl, HB7.out⟩
end Go.Proofs.Ytldlddoealpomaa
