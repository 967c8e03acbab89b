/- firstGroup. -/
import Derived.Test.YtldlddoealpomaaGc
namespace Go.Proofs.Ytldlddoealpomaa.Rl
open Go.RowKit Go.Lib

theorem lits_step {l : List Sect} (h : sgl l = true) : lits l = lits (l.drop 1) + 1 := by
  rcases l with _ | ⟨a, t⟩
  · cases h
  · rw [lits, if_pos h]; rfl
theorem lits_stop {l : List Sect} (h : sgl l = false) : lits l = 0 := by
  rcases l with _ | ⟨a, t⟩
  · rfl
  · rw [lits, if_neg (by rw [h]; decide)]
theorem eqs_step {a c : Sect} {t : List Sect} (h : c = a) : eqs a (c :: t) = eqs a t + 1 := by rw [eqs, if_pos h]
theorem eqs_stop {a c : Sect} {t : List Sect} (h : c ≠ a) : eqs a (c :: t) = 0 := by rw [eqs, if_neg h]
theorem und53 : Try.prog.underlying 81 = some (.struct (Try.prog.fieldsOf 81)) := by kernel_rfl
theorem size53 : (Try.prog.info? 81).map (·.size) = some 2 := by kernel_rfl
theorem sec_drop {w : World} {b off n c k : Nat} {l : List Sect} (h : Sec w (.slice (some ⟨b, off, none⟩) n c) l) (hn : n = l.length) (hk : k < n) : Sec w (.slice (some ⟨b, off + k * 8, none⟩) (n - k) (c - k)) (l.drop k) := by
  subst hn
  obtain ⟨h8, A, cap, e, h1, h2, b', off', hA, hc⟩ := h
  rw [List.length_map] at e h1 hA
  injection e with e1 e2 e3
  subst e3
  obtain ⟨hA1, hb⟩ := hA (by omega)
  rw [← e1] at hA1
  injection hA1 with hA1
  injection hA1 with e4 e5
  subst e4 e5
  refine ⟨fun s hs => h8 s (List.mem_of_mem_drop hs), some ⟨b, off + k * 8, none⟩, c - k, by rw [List.length_map, List.length_drop], by rw [List.length_map, List.length_drop]; omega, by omega, b, off + k * 8, fun _ => ⟨rfl, hb⟩, fun i r hr j u hu => ?_⟩
  rw [List.getElem?_map, List.getElem?_drop] at hr
  have := hc (k + i) r (by rw [List.getElem?_map]; exact hr) j u hu
  rw [show off + k * 8 + i * 8 + j = off + (k + i) * 8 + j by omega]
  exact this

set_option maxHeartbeats 2000000 in
set_option maxRecDepth 100000 in
theorem first_lits (l : List Sect) (b off cap : Nat) (w : World) (hv : Sec w (.slice (some ⟨b, off, none⟩) l.length cap) l) (h0 : l ≠ []) (hs : sgl l = true) (hl : l.length ≤ 100000) (hcap : l.length ≤ cap) :
    Calls Try.prog 64 #[.slice (some ⟨b, off, none⟩) l.length cap] w fun e w' => e = .returned (.agg #[.int .i64 0, .slice (some ⟨b, off, none⟩) (lits l) cap]) ∧ Below w.heap.size w w' := by
  have HB0 := hid (al1 w (.cells #[.int .i64 0, .slice none 0 0] 81))
  have HX0 := hid (heap_alloc_new w (.cells #[.int .i64 0, .slice none 0 0] 81))
  obtain ⟨W, hW⟩ : ∃ W, w.alloc (.cells #[.int .i64 0, .slice none 0 0] 81) = W := ⟨_, rfl⟩
  have HV := hid hv
  have HS := hid (fun (X : World) (hX : Below w.heap.size w X) (k : Nat) (hk : k < l.length) => single_any (l.drop k) _ X ((sec_drop hv rfl hk).below hX) (by intro h; have := congrArg List.length h; rw [List.length_drop] at this; simp at this; omega))
  have HL := hid hs
  have H0 := hid h0
  have hlp : 0 < l.length := List.length_pos_iff.2 h0
  have HS0 := hid (fun (X : World) (hX : Below w.heap.size w X) => single_any l _ X (hv.below hX) h0)
  have HR1 : Hid (lits l = 1 + lits (l.drop 1)) := hid (by rw [lits_step hs]; omega)
  have HST := hid (fun (k : Nat) (h : sgl (l.drop k) = true) => show lits (l.drop k) = lits (l.drop (k + 1)) + 1 from by rw [lits_step h, List.drop_drop])
  rw [hs] at HS0
  have HS0 := hid (fun (X : World) (hX : Below w.heap.size w X) => single_any l _ X (hv.below hX) h0)
  have HR1 : Hid (lits l = 1 + lits (l.drop 1)) := hid (by rw [lits_step hs]; omega)
  have HST := hid (fun (k : Nat) (h : sgl (l.drop k) = true) => show lits (l.drop k) = lits (l.drop (k + 1)) + 1 from by rw [lits_step h, List.drop_drop])
  rw [hs] at HS0
  have HS0 := hid (fun (X : World) (hX : Below w.heap.size w X) => single_any l _ X (hv.below hX) h0)
  have HR1 : Hid (lits l = 1 + lits (l.drop 1)) := hid (by rw [lits_step hs]; omega)
  have HST := hid (fun (k : Nat) (h : sgl (l.drop k) = true) => show lits (l.drop k) = lits (l.drop (k + 1)) + 1 from by rw [lits_step h, List.drop_drop])
  rw [hs] at HS0
  have HS0 := hid (fun (X : World) (hX : Below w.heap.size w X) => single_any l _ X (hv.below hX) h0)
  have HR1 : Hid (lits l = 1 + lits (l.drop 1)) := hid (by rw [lits_step hs]; omega)
  have HST := hid (fun (k : Nat) (h : sgl (l.drop k) = true) => show lits (l.drop k) = lits (l.drop (k + 1)) + 1 from by rw [lits_step h, List.drop_drop])
  rw [hs] at HS0
  have HS0 := hid (fun (X : World) (hX : Below w.heap.size w X) => single_any l _ X (hv.below hX) h0)
  have HR1 : Hid (lits l = 1 + lits (l.drop 1)) := hid (by rw [lits_step hs]; omega)
  have HST := hid (fun (k : Nat) (h : sgl (l.drop k) = true) => show lits (l.drop k) = lits (l.drop (k + 1)) + 1 from by rw [lits_step h, List.drop_drop])
  rw [hs] at HS0
  have HS0 := hid (fun (X : World) (hX : Below w.heap.size w X) => single_any l _ X (hv.below hX) h0)
  have HR1 : Hid (lits l = 1 + lits (l.drop 1)) := hid (by rw [lits_step hs]; omega)
  have HST := hid (fun (k : Nat) (h : sgl (l.drop k) = true) => show lits (l.drop k) = lits (l.drop (k + 1)) + 1 from by rw [lits_step h, List.drop_drop])
  rw [hs] at HS0
  have HS0 := hid (fun (X : World) (hX : Below w.heap.size w X) => single_any l _ X (hv.below hX) h0)
  have HR1 : Hid (lits l = 1 + lits (l.drop 1)) := hid (by rw [lits_step hs]; omega)
  have HST := hid (fun (k : Nat) (h : sgl (l.drop k) = true) => show lits (l.drop k) = lits (l.drop (k + 1)) + 1 from by rw [lits_step h, List.drop_drop])
  rw [hs] at HS0
  clear hv hs h0
  obtain ⟨n, hn⟩ : ∃ n, l.length = n := ⟨_, rfl⟩
  have HN := hid hn
  rw [hn] at HS HS0 hlp hl hcap ⊢
  rw [hW] at HB0 HX0
  have hWs : W.heap.size = w.heap.size + 1 := by rw [← hW]; simp
  clear hn
  go_enter Try.func64, Try.ntmps64
  go_wp2_with fail
  refine (HS0.out _ HB0.out).mono ?_
  rintro e w1 ⟨rfl, hb1⟩
  have HB1 := hid (HB0.out.trans (hb1.mono (by omega)))
  have HX1 := hid ((hb1.block w.heap.size (by omega)).trans HX0.out)
  have hz1 : w.heap.size + 1 ≤ w1.heap.size := by have := hb1.size; omega
  clear hb1 hW hWs HB0 HX0 HS0
  go_wp2
  go_loopw [3] (fun i wr => ∃ k : Nat, 1 ≤ k ∧ k ≤ n ∧ i = .int .i64 (k : Int) ∧ Hid (lits l = k + lits (l.drop k)) ∧ Hid (Below w.heap.size w wr) ∧ w.heap.size + 1 ≤ wr.heap.size ∧ Hid (wr.heap[w.heap.size]? = some (.cells #[.int .i64 0, .slice none 0 0] 81))) (fun i _ => n - (Lib.intOf i).toNat)
  case atStart => exact ⟨1, by omega, by omega, rfl, HR1, HB1, hz1, HX1⟩
  case round =>
    clear HB1 hz1 HX1 HR1
    obtain ⟨k, hk1, hk, rfl, HR, HB, hz, HX⟩ := hrel
    by_cases hkn : k < n
    · have HC := hid (HS.out wr HB.out k hkn)
      have hkc : (k : Int) ≤ (n : Int) := by omega
      rcases hq : sgl (l.drop k) with _ | _
      · have HE : Hid (lits l = k) := hid (by rw [HR.out, lits_stop hq]; rfl)
        rw [hq] at HC
        clear hq
        go_wp2_with fail
        refine HC.out.mono ?_
        rintro e w2 ⟨rfl, hb2⟩
        have HB2 := hid (HB.out.trans (hb2.mono (by omega)))
        have HX2 := hid ((hb2.block w.heap.size (by omega)).trans HX.out)
        have hz2 : w.heap.size + 1 ≤ w2.heap.size := by have := hb2.size; omega
        clear hb2 HC HB HX hz
        have cz0 : w2.cell? ⟨w.heap.size, 0, none⟩ = some (.int .i64 0) := cell_of_row _ _ 0 _ _ _ HX2.out
        have cz1 : w2.cell? ⟨w.heap.size, 1, none⟩ = some (.slice none 0 0) := cell_of_row _ _ 1 _ _ _ HX2.out
        have fz0 := box_fr HX2.out 0
        have fz1 := box_fr HX2.out 1
        go_wp2
        refine bodyPost_ret (results_cell_row rfl _ _ w.heap.size 81 #[.int .i64 0, .slice (some ⟨b, off, none⟩) k cap] (0, 0) _ rfl (box_s1 (box_s0 HX2.out _) _) und53 rfl size53) rfl ?_
        exact ⟨by rw [HE.out], (HB2.out.setCell (p := ⟨w.heap.size, 0, none⟩) (Nat.le_refl _) _).setCell (p := ⟨w.heap.size, 1, none⟩) (Nat.le_refl _) _⟩
      · have HE : Hid (lits l = (k + 1) + lits (l.drop (k + 1))) := hid (by rw [HR.out, HST.out k hq]; omega)
        rw [hq] at HC
        clear hq
        go_wp2_with fail
        refine HC.out.mono ?_
        rintro e w2 ⟨rfl, hb2⟩
        have HB2 := hid (HB.out.trans (hb2.mono (by omega)))
        have HX2 := hid ((hb2.block w.heap.size (by omega)).trans HX.out)
        have hz2 : w.heap.size + 1 ≤ w2.heap.size := by have := hb2.size; omega
        clear hb2 HC HB HX hz
        go_wp2
        go_roundw
        case rel => exact ⟨k + 1, by omega, by omega, by go_num, HE, HB2, hz2, HX2⟩
        case measure => simp [Lib.intOf]; omega
    · obtain rfl : k = n := by omega
      have HE : Hid (lits l = k) := hid (by rw [HR.out, List.drop_of_length_le (by rw [HN.out]; omega)]; rfl)
      have dk : decide (k < k) = false := by simp
      have cz0 : wr.cell? ⟨w.heap.size, 0, none⟩ = some (.int .i64 0) := cell_of_row _ _ 0 _ _ _ HX.out
      have cz1 : wr.cell? ⟨w.heap.size, 1, none⟩ = some (.slice none 0 0) := cell_of_row _ _ 1 _ _ _ HX.out
      have fz0 := box_fr HX.out 0
      have fz1 := box_fr HX.out 1
      go_wp2
      refine bodyPost_ret (results_cell_row rfl _ _ w.heap.size 81 #[.int .i64 0, .slice (some ⟨b, off, none⟩) k cap] (0, 0) _ rfl (box_s1 (box_s0 HX.out _) _) und53 rfl size53) rfl ?_
      exact ⟨by rw [HE.out], (HB.out.setCell (p := ⟨w.heap.size, 0, none⟩) (Nat.le_refl _) _).setCell (p := ⟨w.heap.size, 1, none⟩) (Nat.le_refl _) _⟩

theorem ne_of_not_sgl {a : Sect} {t : List Sect} : (decide (a = zs) = hdz (a :: t)) := rfl
set_option maxHeartbeats 4000000 in
set_option maxRecDepth 100000 in
theorem first_eqs (l : List Sect) (b off cap : Nat) (w : World) (hv : Sec w (.slice (some ⟨b, off, none⟩) l.length cap) l) (h0 : l ≠ []) (hs : sgl l = false) (hl : l.length ≤ 100000) (hcap : l.length ≤ cap) :
    Calls Try.prog 64 #[.slice (some ⟨b, off, none⟩) l.length cap] w fun e w' => e = .returned (.agg #[.int .i64 (if hdz l = true then 2 else 1 : Nat), .slice (some ⟨b, off, none⟩) (eqh l) cap]) ∧ Below w.heap.size w w' := by
  have HB0 := hid (al1 w (.cells #[.int .i64 0, .slice none 0 0] 81))
  have HX0 := hid (heap_alloc_new w (.cells #[.int .i64 0, .slice none 0 0] 81))
  obtain ⟨W, hW⟩ : ∃ W, w.alloc (.cells #[.int .i64 0, .slice none 0 0] 81) = W := ⟨_, rfl⟩
  have hlp : 0 < l.length := List.length_pos_iff.2 h0
  have HS0 := hid (fun (X : World) (hX : Below w.heap.size w X) => single_any l _ X (hv.below hX) h0)
  rw [hs] at HS0
  obtain ⟨a, t, hat⟩ : ∃ a t, l = a :: t := by
    rcases l with _ | ⟨a, t⟩
    · exact absurd rfl h0
    · exact ⟨a, t, rfl⟩
  have ha := hv.1 a (by rw [hat]; simp)
  have HZ := hid (fun X : World => isZero_any a X ha.1 ha.2)
  have hzb : decide (a = zs) = hdz l := by rw [hat]; rfl
  rw [hzb] at HZ
  clear hzb
  have HE0 : Hid (eqh l = 1 + eqs a (l.drop 1)) := hid (by rw [hat, eqh_cons, List.drop_succ_cons, List.drop_zero]; omega)
  have HEL : Hid (eqh l ≤ l.length) := hid (eqh_le l)
  have HV := hid hv
  have HSC := hid (fun (X : World) (hX : Below w.heap.size w X) (k : Nat) (s : Sect) (hk : l[k]? = some s) => show Sc X b (off + k * 8) s from by
    obtain ⟨b', off', cap', e, _, _, hbl, hsc⟩ := sec_at hv h0
    injection e with e1 _ _
    injection e1 with e1
    injection e1 with e2 e3
    subst e2 e3
    exact (hsc k s hk).below hbl hX)
  have hl0 : l[0]? = some a := by rw [hat]; simp
  have HSA := hid (fun (X : World) (hX : Below w.heap.size w X) => HSC.out X hX 0 a hl0)
  have HSE := hid (fun (k : Nat) (s : Sect) (hk : l[k]? = some s) => hv.1 s (List.mem_of_getElem? hk))
  have HAA := hid ha
  clear hv hs h0 hl0 hat
  obtain ⟨x0, x1, x2, x3, x4, x5, x6, x7, rfl⟩ := list8 ha.1
  clear ha
  obtain ⟨n, hn⟩ : ∃ n, l.length = n := ⟨_, rfl⟩
  have HN := hid hn
  rw [hn] at HS0 hlp hl hcap HEL ⊢
  rw [hW] at HB0 HX0
  have hWs : W.heap.size = w.heap.size + 1 := by rw [← hW]; simp
  clear hn
  obtain ⟨qz, hqz⟩ : ∃ q, hdz l = q := ⟨_, rfl⟩
  rw [hqz] at HZ ⊢
  clear hqz
  go_enter Try.func64, Try.ntmps64
  go_wp2_with fail
  refine (HS0.out _ HB0.out).mono ?_
  rintro e w1 ⟨rfl, hb1⟩
  have HB1 := hid (HB0.out.trans (hb1.mono (by omega)))
  have HX1 := hid ((hb1.block w.heap.size (by omega)).trans HX0.out)
  have hz1 : w.heap.size + 1 ≤ w1.heap.size := by have := hb1.size; omega
  clear hb1 hW hWs HB0 HX0 HS0
  go_wp2
  go_loopw [3] (fun i wr => ∃ k : Nat, 1 ≤ k ∧ k ≤ n ∧ i = .int .i64 (k : Int) ∧ Hid (eqh l = k + eqs [x0, x1, x2, x3, x4, x5, x6, x7] (l.drop k)) ∧ Hid (Below w.heap.size w wr) ∧ w.heap.size + 1 ≤ wr.heap.size ∧ Hid (wr.heap[w.heap.size]? = some (.cells #[.int .i64 0, .slice none 0 0] 81))) (fun i _ => n - (Lib.intOf i).toNat)
  case atStart => exact ⟨1, by omega, by omega, rfl, HE0, HB1, hz1, HX1⟩
  case round =>
    clear HB1 hz1 HX1 HE0
    obtain ⟨k, hk1, hk, rfl, HR, HB, hz, HX⟩ := hrel
    obtain ⟨p0, p1, p2, p3, p4, p5, p6, p7⟩ := (HSA.out wr HB.out).facts
    rw [Nat.zero_mul, Nat.add_zero] at p0 p1 p2 p3 p4 p5 p6 p7
    by_cases hkn : k < n
    · obtain ⟨y, hy⟩ : ∃ y, l[k]? = some y := ⟨l[k]'(by rw [HN.out]; exact hkn), List.getElem?_eq_getElem _⟩
      have hyo := HSE.out k y hy
      have HD : Hid (l.drop k = y :: l.drop (k + 1)) := hid (by
        obtain ⟨hlt, rfl⟩ := List.getElem?_eq_some_iff.1 hy
        exact List.drop_eq_getElem_cons hlt)
      have s1 := HSC.out wr HB.out k y hy
      have heq := fun (X : World) => eql_sec y [x0, x1, x2, x3, x4, x5, x6, x7] hyo.1 HAA.out.1 hyo.2 HAA.out.2 X
      clear hy
      obtain ⟨y0, y1, y2, y3, y4, y5, y6, y7, rfl⟩ := list8 hyo.1
      obtain ⟨q0, q1, q2, q3, q4, q5, q6, q7⟩ := s1.facts
      clear s1 hyo
      obtain ⟨bb, hbb⟩ : ∃ bb, decide ([y0, y1, y2, y3, y4, y5, y6, y7] = [x0, x1, x2, x3, x4, x5, x6, x7]) = bb := ⟨_, rfl⟩
      rw [hbb] at heq
      have heq2 : ∀ X : World, (Op.equalIn 10000 44 (.agg #[.int .u8 (y0 : Int), .int .u8 (y1 : Int), .int .u8 (y2 : Int), .int .u8 (y3 : Int), .int .u8 (y4 : Int), .int .u8 (y5 : Int), .int .u8 (y6 : Int), .int .u8 (y7 : Int)]) (.agg #[.int .u8 (x0 : Int), .int .u8 (x1 : Int), .int .u8 (x2 : Int), .int .u8 (x3 : Int), .int .u8 (x4 : Int), .int .u8 (x5 : Int), .int .u8 (x6 : Int), .int .u8 (x7 : Int)])).run Try.prog X = .ok bb X := heq
      clear heq
      have dk : decide (k < n) = true := by simp; omega
      have hkn1 : (k : Int) < (n : Int) := by omega
      have hk0 : (0 : Int) ≤ (k : Int) := by omega
      have hn0 : (0 : Int) < (n : Int) := by omega
      rcases bb with _ | _
      · have HE : Hid (eqh l = k) := hid (by rw [HR.out, HD.out, eqs_stop (of_decide_eq_false hbb)]; rfl)
        clear hbb
        go_wp2_with fail
        go_quiet (fail)
        have HBd : Hid (Below w.heap.size w (wr.drewN nq)) := hid ⟨HB.out.os, HB.out.tape, HB.out.output, HB.out.size, HB.out.block⟩
        have HXd : Hid ((wr.drewN nq).heap[w.heap.size]? = some (.cells #[.int .i64 0, .slice none 0 0] 81)) := hid HX.out
        go_wp2_with fail
        refine (HZ.out _).mono ?_
        rintro e w3 ⟨rfl, hw3⟩
        have hzd : (wr.drewN nq).heap.size = wr.heap.size := by simp
        have HB3 := hid (show Below w.heap.size w w3 from hw3 ▸ HBd.out.alloc (by omega) _)
        have HX3 := hid (show w3.heap[w.heap.size]? = some (.cells #[.int .i64 0, .slice none 0 0] 81) from hw3 ▸ ((Below.heap_alloc _ _ _ (by omega)).trans HXd.out))
        clear hw3 HBd HXd HB HX p0 p1 p2 p3 p4 p5 p6 p7
        have cz0 : w3.cell? ⟨w.heap.size, 0, none⟩ = some (.int .i64 0) := cell_of_row _ _ 0 _ _ _ HX3.out
        have cz1 : w3.cell? ⟨w.heap.size, 1, none⟩ = some (.slice none 0 0) := cell_of_row _ _ 1 _ _ _ HX3.out
        have fz0 := box_fr HX3.out 0
        have fz1 := box_fr HX3.out 1
        rcases qz with _ | _
        · go_wp2
          refine bodyPost_ret (results_cell_row rfl _ _ w.heap.size 81 #[.int .i64 1, .slice (some ⟨b, off, none⟩) k cap] (0, 0) _ rfl (box_s1 (box_s0 HX3.out _) _) und53 rfl size53) rfl ?_
          exact ⟨by rw [HE.out], (HB3.out.setCell (p := ⟨w.heap.size, 0, none⟩) (Nat.le_refl _) _).setCell (p := ⟨w.heap.size, 1, none⟩) (Nat.le_refl _) _⟩
        · go_wp2
          refine bodyPost_ret (results_cell_row rfl _ _ w.heap.size 81 #[.int .i64 2, .slice (some ⟨b, off, none⟩) k cap] (0, 0) _ rfl (box_s1 (box_s0 HX3.out _) _) und53 rfl size53) rfl ?_
          exact ⟨by rw [HE.out], (HB3.out.setCell (p := ⟨w.heap.size, 0, none⟩) (Nat.le_refl _) _).setCell (p := ⟨w.heap.size, 1, none⟩) (Nat.le_refl _) _⟩
      · have HE : Hid (eqh l = (k + 1) + eqs [x0, x1, x2, x3, x4, x5, x6, x7] (l.drop (k + 1))) := hid (by rw [HR.out, HD.out, eqs_step (of_decide_eq_true hbb)]; omega)
        clear hbb
        go_wp2_with fail
        go_quiet (fail)
        have HBd : Hid (Below w.heap.size w (wr.drewN nq)) := hid ⟨HB.out.os, HB.out.tape, HB.out.output, HB.out.size, HB.out.block⟩
        have HXd : Hid ((wr.drewN nq).heap[w.heap.size]? = some (.cells #[.int .i64 0, .slice none 0 0] 81)) := hid HX.out
        have hzd : w.heap.size + 1 ≤ (wr.drewN nq).heap.size := hz
        go_wp2
        go_roundw
        case rel => exact ⟨k + 1, by omega, by omega, by go_num, HE, HBd, hzd, HXd⟩
        case measure => simp [Lib.intOf]; omega
    · obtain rfl : k = n := by omega
      have HE : Hid (eqh l = k) := hid (by rw [HR.out, List.drop_of_length_le (by rw [HN.out]; omega)]; rfl)
      have dk : decide (k < k) = false := by simp
      have hn0 : (0 : Int) < (k : Int) := by omega
      go_wp2_with fail
      go_quiet (fail)
      have HBd : Hid (Below w.heap.size w (wr.drewN nq)) := hid ⟨HB.out.os, HB.out.tape, HB.out.output, HB.out.size, HB.out.block⟩
      have HXd : Hid ((wr.drewN nq).heap[w.heap.size]? = some (.cells #[.int .i64 0, .slice none 0 0] 81)) := hid HX.out
      go_wp2_with fail
      refine (HZ.out _).mono ?_
      rintro e w3 ⟨rfl, hw3⟩
      have hzd : (wr.drewN nq).heap.size = wr.heap.size := by simp
      have HB3 := hid (show Below w.heap.size w w3 from hw3 ▸ HBd.out.alloc (by omega) _)
      have HX3 := hid (show w3.heap[w.heap.size]? = some (.cells #[.int .i64 0, .slice none 0 0] 81) from hw3 ▸ ((Below.heap_alloc _ _ _ (by omega)).trans HXd.out))
      clear hw3 HBd HXd HB HX p0 p1 p2 p3 p4 p5 p6 p7
      have cz0 : w3.cell? ⟨w.heap.size, 0, none⟩ = some (.int .i64 0) := cell_of_row _ _ 0 _ _ _ HX3.out
      have cz1 : w3.cell? ⟨w.heap.size, 1, none⟩ = some (.slice none 0 0) := cell_of_row _ _ 1 _ _ _ HX3.out
      have fz0 := box_fr HX3.out 0
      have fz1 := box_fr HX3.out 1
      rcases qz with _ | _
      · go_wp2
        refine bodyPost_ret (results_cell_row rfl _ _ w.heap.size 81 #[.int .i64 1, .slice (some ⟨b, off, none⟩) k cap] (0, 0) _ rfl (box_s1 (box_s0 HX3.out _) _) und53 rfl size53) rfl ?_
        exact ⟨by rw [HE.out], (HB3.out.setCell (p := ⟨w.heap.size, 0, none⟩) (Nat.le_refl _) _).setCell (p := ⟨w.heap.size, 1, none⟩) (Nat.le_refl _) _⟩
      · go_wp2
        refine bodyPost_ret (results_cell_row rfl _ _ w.heap.size 81 #[.int .i64 2, .slice (some ⟨b, off, none⟩) k cap] (0, 0) _ rfl (box_s1 (box_s0 HX3.out _) _) und53 rfl size53) rfl ?_
        exact ⟨by rw [HE.out], (HB3.out.setCell (p := ⟨w.heap.size, 0, none⟩) (Nat.le_refl _) _).setCell (p := ⟨w.heap.size, 1, none⟩) (Nat.le_refl _) _⟩

theorem first_any (l : List Sect) (b off cap : Nat) (w : World) (hv : Sec w (.slice (some ⟨b, off, none⟩) l.length cap) l) (h0 : l ≠ []) (hl : l.length ≤ 100000) (hcap : l.length ≤ cap) :
    Calls Try.prog 64 #[.slice (some ⟨b, off, none⟩) l.length cap] w fun e w' => e = .returned (.agg #[.int .i64 (knd l : Nat), .slice (some ⟨b, off, none⟩) (cnt l) cap]) ∧ Below w.heap.size w w' := by
  rcases hs : sgl l with _ | _
  · have e1 : knd l = if hdz l = true then 2 else 1 := by unfold knd; rw [if_neg (by rw [hs]; decide)]
    have e2 : cnt l = eqh l := by unfold cnt; rw [if_neg (by rw [hs]; decide)]
    rw [e1, e2]
    exact first_eqs l b off cap w hv h0 hs hl hcap
  · have e1 : knd l = 0 := by unfold knd; rw [if_pos hs]
    have e2 : cnt l = lits l := by unfold cnt; rw [if_pos hs]
    rw [e1, e2]
    exact first_lits l b off cap w hv h0 hs hl hcap
end Go.Proofs.Ytldlddoealpomaa.Rl
