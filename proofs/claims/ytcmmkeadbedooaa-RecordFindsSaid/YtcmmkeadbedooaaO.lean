/- A record read from its sectors. -/
import Derived.Test.YtcmmkeadbedooaaN
namespace Go.Proofs.Ytcmmkeadbedooaa
open Go.RowKit Go.Lib

theorem next_lf2 (g k : Nat) (t : List Nat) (u : Value) (w0 w : World) (h : Lf w0 w g t u) (hk : k ≤ t.length) (ht : 0 < t.length) :
    Calls Try.prog 27 #[.pointer (some ⟨g, 0, none⟩), .int .i64 (k : Int)] w fun e w' => (∃ A cap, e = .returned (.slice A k cap) ∧ Byt w0 (.slice A k cap) (t.take k) ∧ NilOk (.slice A k cap)) ∧ Lf w0 w' g (t.drop k) u ∧ Upd g w w' := by
  obtain ⟨A, cap, hb, hv⟩ := h
  have hl := byt_cap hv
  refine (next_any g A t.length cap k u w hb hk hl).mono ?_
  rintro e w' ⟨rfl, rfl⟩
  have h1 := byt_upto hv k
  have h2 := byt_from hv hk
  have e1 : (t.take k).length = k := by rw [List.length_take]; omega
  have e2 : (t.drop k).length = t.length - k := List.length_drop
  rw [e1] at h1
  obtain ⟨b, off, hA, _⟩ := byt_at hv ht
  refine ⟨⟨A, cap, rfl, h1, by rw [hA]; exact nilOk_some _ _ _⟩, ⟨fromA A cap k, cap - k, ?_, by rw [e2]; exact h2⟩, (Upd.refl g w).set 0 _⟩
  rw [e2]
  exact box_s0 hb _
/-- What read answers. -/
def RdQ (w : World) (q n m : Nat) (b : List Nat) (e : Ending) (w' : World) : Prop :=
  Below w.heap.size w w' ∧ ((∃ r pv, dB q n m b = .ok (r, n) ∧ e = .returned (.agg #[.int .i64 (r.1 : Nat), .int .i64 (r.2.1 : Nat), pv]) ∧ w'.ownsRow w.heap.size 5 1 pv r.2.2.length (r.2.2.map byteV) ∧ B8 r.2.2) ∨ ∃ er, dB q n m b = .error er ∧ Pan er e)
theorem dts_head {s : Sect} {t : List Sect} (h : s.length = 8) : ((dts (s :: t)).drop 1).take 2 = (s.drop 5).take 2 := by
  unfold dts
  rw [List.map_cons, List.flatten_cons, List.drop_append_of_le_length (by rw [List.length_drop]; omega), List.drop_drop, List.take_append_of_le_length (by rw [List.length_drop]; omega)]

set_option maxHeartbeats 4000000 in
set_option maxRecDepth 100000 in
theorem read_any (l : List Sect) (s : Sect) (m : Nat) (A : Option Addr) (c : Nat) (w : World) (hv : Sec w (.slice A l.length c) l) (hs : l[0]? = some s) (hm : lenOf s = m) (hm4 : m ≤ 4096) (hl : l.length = size m) :
    Calls Try.prog 34 #[.slice A l.length c] w (RdQ w (num s) l.length m (dts l)) := by
  have hS := hv.1
  obtain ⟨hs8, hsb⟩ := hS s (List.mem_of_getElem? hs)
  have hN := num_lt hs8 hsb
  have hlne : l ≠ [] := by intro h; rw [h] at hs; cases hs
  obtain ⟨n, hn⟩ : ∃ n, l.length = n := ⟨_, rfl⟩
  obtain ⟨q, hq⟩ : ∃ q, num s = q := ⟨_, rfl⟩
  have hsz : 7 + m ≤ 4 * n ∧ n ≤ 1100 := by rw [← hn, hl]; unfold size; omega
  have hdl : (dts l).length = 4 * n := by rw [dts_len hS, hn]
  have hd8 : B8 (dts l) := dts_b8 hS
  have hdh : ge (((dts l).drop 1).take 2) = m := by
    rcases hle : l with _ | ⟨s', t⟩
    · exact absurd hle hlne
    · rw [hle] at hs; injection hs with hs; subst hs
      rw [dts_head hs8]; exact hm
  have HDATA := hid (fun W (h : Below w.heap.size w W) => data_any l _ W (hv.below h) (by rw [hn]; omega))
  obtain ⟨b, off, cap, he, _, _, hbl, hsc⟩ := sec_at hv hlne
  injection he with he1 he2 he3
  subst he1
  subst he3
  have hsc' := hsc 0 s hs
  rw [Nat.zero_mul, Nat.add_zero] at hsc'
  obtain ⟨D, hD⟩ : ∃ D, dts l = D := ⟨_, rfl⟩
  rw [hn, hD] at HDATA
  rw [hD] at hdl hd8 hdh
  rw [hn, hq, hD]
  rw [hq] at hN
  have HNUM := hid (fun W => num_any s W hs8 hsb)
  rw [hq] at HNUM
  obtain ⟨x0, x1, x2, x3, x4, x5, x6, x7, hxs⟩ := list8 hs8
  rw [hxs] at hsc' HNUM
  have HSC := hid hsc'
  have HDL := hid hdl
  have HD8 := hid hd8
  have HDH := hid hdh
  have HSZ := hid hsz
  have HBL := hid hbl
  clear hv hS hs8 hsb hlne hn hq hD hxs hsc hsc' hdl hd8 hdh hsz hl hs hm hbl
  obtain ⟨W1, hW1⟩ : ∃ W1, w.alloc (.cells #[.int .i64 0, .int .i64 0, .slice none 0 0] 27) = W1 := ⟨_, rfl⟩
  have hx1 : W1.heap[w.heap.size]? = some (.cells #[.int .i64 0, .int .i64 0, .slice none 0 0] 27) := by rw [← hW1]; exact heap_alloc_new _ _
  have hb1 : Below w.heap.size w W1 := by rw [← hW1]; exact al1 _ _
  have HX1 := hid hx1
  have HB1 := hid hb1
  have HW1 := hid hW1
  clear hx1 hb1 hW1
  go_enter Try.func34, Try.ntmps34
  go_wp2_with fail
  rw [HW1.out]
  refine (HDATA.out W1 HB1.out).mono ?_
  rintro e w2 ⟨v2, rfl, ho2, hb2⟩
  have hv2 := byt_of_own ho2 HD8.out
  rw [HDL.out] at ho2
  obtain ⟨A2, c2, rfl⟩ := own_form ho2
  have HV2 := hid hv2
  have HB2 := hid hb2
  clear ho2 hv2 hb2 HDATA
  go_wp2_with fail
  refine (over_any _ _ _ _).mono ?_
  rintro e w3 ⟨rfl, hb3⟩
  obtain ⟨W4, hW4⟩ : ∃ W4, w3.alloc (.cells #[.slice A2 (4 * n) c2, .slice A2 (4 * n) c2] 62) = W4 := ⟨_, rfl⟩
  have hx4 : W4.heap[w3.heap.size]? = some (.cells #[.slice A2 (4 * n) c2, .slice A2 (4 * n) c2] 62) := by rw [← hW4]; exact heap_alloc_new _ _
  have hb4 : Below w3.heap.size w3 W4 := by rw [← hW4]; exact al1 _ _
  have hv3 := HV2.out.below hb3
  have hlf4 : Lf w3 W4 w3.heap.size D (.slice A2 (4 * n) c2) := ⟨A2, c2, by rw [HDL.out]; exact hx4, by rw [HDL.out]; exact hv3⟩
  have HN5 := hid (number_lf w3.heap.size 1 _ _ w3 W4 hlf4 hb4 (Nat.le_refl _) (by rw [HDL.out]; have := HSZ.out; omega) (by omega))
  have HW4 := hid hW4
  have HV3 := hid hv3
  have HB3 := hid hb3
  have HB4 := hid hb4
  clear hb3 hb4 hx4 hlf4 hW4 hv3
  go_wp2_with fail
  rw [HW4.out]
  refine HN5.out.mono ?_
  rintro e w5 ⟨rfl, hlf5, hu5⟩
  have hb5 : Below w3.heap.size w3 w5 := HB4.out.trans (hu5.below (Nat.le_refl _) HB4.out.size)
  have HN6 := hid (number_lf w3.heap.size 2 _ _ w3 w5 hlf5 hb5 (Nat.le_refl _) (by rw [List.length_drop, HDL.out]; have := HSZ.out; omega) (by omega))
  have HB5 := hid hb5
  clear hlf5 hu5 hb5 HN5
  go_wp2_with fail
  refine HN6.out.mono ?_
  rintro e w6 ⟨rfl, hlf6, hu6⟩
  rw [HDH.out]
  rw [List.drop_drop] at hlf6
  have hb6 : Below w3.heap.size w3 w6 := HB5.out.trans (hu6.below (Nat.le_refl _) HB5.out.size)
  have HN7 := hid (next_lf2 w3.heap.size m _ _ w3 w6 hlf6 (by rw [List.length_drop, HDL.out]; have := HSZ.out; omega) (by rw [List.length_drop, HDL.out]; have := HSZ.out; omega))
  have HB6 := hid hb6
  clear hlf6 hu6 hb6 HN6
  go_wp2_with fail
  refine HN7.out.mono ?_
  rintro e w7 ⟨⟨A7, c7, rfl, hv7, hn7⟩, hlf7, hu7⟩
  rw [List.drop_drop] at hlf7
  rw [show 1 + 2 = 3 from rfl] at hv7 hlf7
  obtain ⟨P, hP⟩ : ∃ P, (D.drop 3).take m = P := ⟨_, rfl⟩
  rw [hP] at hv7
  have hb7 : Below w3.heap.size w3 w7 := HB6.out.trans (hu7.below (Nat.le_refl _) HB6.out.size)
  have hsum := sum_lf w3.heap.size (D.drop (3 + m)) D A2 c2 w3 w7 (by rw [HDL.out]; exact hlf7) hb7 (by rw [HDL.out]; exact HV3.out) (by rw [List.length_drop]; omega)
  rw [List.length_drop, HDL.out, show 4 * n - (4 * n - (3 + m)) = 3 + m by have := HSZ.out; omega] at hsum
  obtain ⟨S, hS⟩ : ∃ S, sum0 (D.take (3 + m)) = S := ⟨_, rfl⟩
  rw [hS] at hsum
  have hS32 : S < 4294967296 := by have := sum0_lt' (b8_take HD8.out (3 + m)); rw [hS] at this; simpa using this
  have HSUM := hid hsum
  have HV7 := hid hv7
  have HN7' := hid hn7
  have HLF7 := hid hlf7
  have HB7 := hid hb7
  have HSE := hid hS
  have HPE := hid hP
  clear hsum hv7 hn7 hlf7 hb7 hu7 HN7 hS hP
  go_wp2_with fail
  refine HSUM.out.mono ?_
  rintro e w8 ⟨rfl, hb8⟩
  have hg7 := HLF7.out
  have hlf8 : Lf w3 w8 w3.heap.size (D.drop (3 + m)) (.slice A2 (4 * n) c2) := by
    obtain ⟨A', c', h1, h2⟩ := hg7
    exact ⟨A', c', (hb8.block _ (box_lt h1)).trans h1, h2⟩
  have hb38 : Below w3.heap.size w3 w8 := HB7.out.trans (hb8.mono HB7.out.size)
  have HN9 := hid (number_lf w3.heap.size 4 _ _ w3 w8 hlf8 hb38 (Nat.le_refl _) (by rw [List.length_drop, HDL.out]; have := HSZ.out; omega) (by omega))
  have HB8 := hid hb38
  clear hg7 hlf8 hb38 hb8 HLF7 HSUM
  go_wp2_with fail
  refine HN9.out.mono ?_
  rintro e w9 ⟨rfl, hlf9, hu9⟩
  rw [List.drop_drop] at hlf9
  have hb9 : Below w3.heap.size w3 w9 := HB8.out.trans (hu9.below (Nat.le_refl _) HB8.out.size)
  have hbw3 : Below w.heap.size w w3 := HB1.out.trans ((HB2.out.trans (HB3.out.mono HB2.out.size)).mono HB1.out.size)
  have hbw9 : Below w.heap.size w w9 := hbw3.trans (hb9.mono hbw3.size)
  obtain ⟨T, hT⟩ : ∃ T, ge ((D.drop (3 + m)).take 4) = T := ⟨_, rfl⟩
  have hT32 : T < 4294967296 := by
    have h := ge_lt (b8_take (b8_drop HD8.out (3 + m)) 4)
    rw [hT, List.length_take, List.length_drop, HDL.out, Nat.min_eq_left (by have := HSZ.out; omega)] at h
    exact h
  rw [hT]
  have HTE := hid hT
  have hwS : IntKind.i64.wrap (S : Int) = (S : Int) := wrap64_nat (by omega)
  have HLF9 := hid hlf9
  have HB9 := hid hb9
  have HBW3 := hid hbw3
  have HBW9 := hid hbw9
  clear hlf9 hb9 hbw3 hbw9 hu9 HN9 hT hS32 hT32
  by_cases hTS : T = S
  · subst hTS
    obtain ⟨k, hk⟩ : ∃ k, ge (D.take 1) = k := ⟨_, rfl⟩
    have HKE := hid hk
    rw [hk]
    by_cases hk0 : k = 0
    · subst hk0
      have HE : Hid (dB q n m D = .error 3) := hid (by unfold dB; rw [HTE.out, HSE.out, if_neg (by simp), if_pos (.inl HKE.out)])
      go_wp2
      exact ⟨rfl, HBW9.out, .inr ⟨3, HE.out, rfl⟩⟩
    · have hd1 : ((k : Int) == 0) = false := by rw [beq_eq_false_iff_ne]; omega
      obtain ⟨A9, c9, hg9, hv9⟩ := HLF9.out
      have hdl9 : (D.drop (3 + m + 4)).length = 4 * n - (7 + m) := by rw [List.length_drop, HDL.out]; omega
      rw [hdl9] at hg9 hv9
      have cg9 : w9.cell? ⟨w3.heap.size, 0, none⟩ = some (.slice A9 (4 * n - (7 + m)) c9) := cell_of_row _ _ 0 _ _ _ hg9
      have HZ := hid (some0_any (D.drop (3 + m + 4)) _ w9 (hv9.below HB9.out) (by rw [hdl9]; have := HSZ.out; omega))
      clear hg9 hv9 hdl9 HLF9 hk
      go_wp2_with fail
      refine HZ.out.mono ?_
      rintro e w10 ⟨rfl, hb10⟩
      have hbw10 : Below w.heap.size w w10 := HBW9.out.trans (hb10.mono HBW9.out.size)
      have hb310 : Below w3.heap.size w3 w10 := HB9.out.trans (hb10.mono HB9.out.size)
      obtain ⟨z, hz⟩ : ∃ z, some0 (D.drop (3 + m + 4)) = z := ⟨_, rfl⟩
      rw [hz]
      have HZE := hid hz
      have HBW10 := hid hbw10
      have HB310 := hid hb310
      clear hz hbw10 hb310 hb10 HZ cg9
      cases z with
      | true =>
        have HE : Hid (dB q n m D = .error 3) := hid (by unfold dB; rw [HTE.out, HSE.out, if_neg (by simp), if_pos (.inr (by rw [show 7 + m = 3 + m + 4 by omega]; exact HZE.out))])
        go_wp2
        exact ⟨rfl, HBW10.out, .inr ⟨3, HE.out, rfl⟩⟩
      | false =>
        have HE : Hid (dB q n m D = .ok ((k, q, P), n)) := hid (by
          unfold dB; rw [HTE.out, HSE.out, if_neg (by simp), if_neg (by rw [HKE.out, show 7 + m = 3 + m + 4 by omega, HZE.out]; simp; exact hk0), HKE.out, HPE.out])
        have hsc10 := HSC.out.below HBL.out HBW10.out
        obtain ⟨p0, p1, p2, p3, p4, p5, p6, p7⟩ := hsc10.facts
        have hnp : (0 : Int) < (n : Int) := by have := HSZ.out; omega
        have hwq : IntKind.i64.wrap (q : Int) = (q : Int) := wrap64_nat (by omega)
        clear hsc10
        go_wp2_with fail
        refine (HNUM.out w10).mono ?_
        rintro e w11 ⟨rfl, hb11⟩
        have hb311 : Below w3.heap.size w3 w11 := HB310.out.trans (hb11.mono HB310.out.size)
        have hbw11 : Below w.heap.size w w11 := HBW10.out.trans (hb11.mono HBW10.out.size)
        have hPl : P.length = m := by rw [← HPE.out, List.length_take, List.length_drop, HDL.out]; have := HSZ.out; omega
        have HCL := hid (clone_any P (.slice A7 m c7) w11 (HV7.out.below hb311) HN7'.out (by omega))
        have HBW11 := hid hbw11
        have HB311 := hid hb311
        clear hb311 hbw11 hb11 p0 p1 p2 p3 p4 p5 p6 p7
        go_wp2_with fail
        refine HCL.out.mono ?_
        rintro e w12 ⟨v12, rfl, ho12, hb12⟩
        have HP8 := hid (show B8 P by rw [← HPE.out]; exact b8_take (b8_drop HD8.out 3) m)
        rw [hPl] at ho12
        obtain ⟨A12, c12, rfl⟩ := own_form ho12
        have hb1x : Below W1.heap.size W1 w12 := HB2.out.trans ((HB3.out.trans ((HB311.out.trans (hb12.mono HB311.out.size)).mono HB3.out.size)).mono HB2.out.size)
        have hx12 := (hb1x.block w.heap.size (box_lt HX1.out)).trans HX1.out
        have HX12 := hid hx12
        have HO12 := hid ho12
        have HZ11 := hid HBW11.out.size
        have HBW12 := hid (HBW11.out.trans (hb12.mono HBW11.out.size))
        clear hb1x hx12 ho12 hb12 HCL
        have x0 := cell_of_row _ _ 0 _ _ _ HX12.out
        have x1 := cell_of_row _ _ 1 _ _ _ HX12.out
        have x2 := cell_of_row _ _ 2 _ _ _ HX12.out
        have fx := box_fr HX12.out
        have hu := (((Upd.refl w.heap.size w12).set 0 (.int .i64 (k : Int))).set 1 (.int .i64 (q : Int))).set 2 (.slice A12 m c12)
        have hh := box_set (box_set (box_set (cs := [.int .i64 0, .int .i64 0, .slice none 0 0]) HX12.out 0 (.int .i64 (k : Int))) 1 (.int .i64 (q : Int))) 2 (.slice A12 m c12)
        obtain ⟨W13, hW13⟩ : ∃ W13, ((w12.setCell ⟨w.heap.size, 0, none⟩ (.int .i64 (k : Int))).setCell ⟨w.heap.size, 1, none⟩ (.int .i64 (q : Int))).setCell ⟨w.heap.size, 2, none⟩ (.slice A12 m c12) = W13 := ⟨_, rfl⟩
        rw [hW13] at hu hh
        have HU := hid hu
        have HH := hid hh
        have HW13 := hid hW13
        clear hu hh hW13
        go_wp2
        rw [HW13.out]
        refine bodyPost_ret (results_cell_row rfl _ _ w.heap.size 27 #[.int .i64 (k : Int), .int .i64 (q : Int), .slice A12 m c12] (0, 0) _ rfl HH.out Try.underlying27 rfl rfl) rfl ?_
        exact ⟨HBW12.out.trans (HU.out.below (Nat.le_refl _) HBW12.out.size), .inl ⟨(k, q, P), _, HE.out, rfl, (by rw [hPl]; exact own_base (own_keep HO12.out (keep_updc HU.out HX12.out (by decide))) HZ11.out), HP8.out⟩⟩
  · have HE : Hid (dB q n m D = .error 9) := hid (by unfold dB; rw [HTE.out, HSE.out, if_pos hTS])
    have hd1 : ((T : Int) != (S : Int)) = true := by rw [bne_iff_ne]; omega
    go_wp2
    exact ⟨rfl, HBW9.out, .inr ⟨9, HE.out, rfl⟩⟩
end Go.Proofs.Ytcmmkeadbedooaa
