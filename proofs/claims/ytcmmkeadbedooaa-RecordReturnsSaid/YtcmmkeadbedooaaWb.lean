/- The law RecordReturns. -/
import Derived.Test.YtcmmkeadbedooaaX
import Derived.Test.YtcmmkeadbedooaaV2
namespace Go.Proofs.Ytcmmkeadbedooaa
open Go.RowKit Go.Lib

set_option maxHeartbeats 4000000 in
set_option maxRecDepth 100000 in
theorem returns_walk (a : Rv) (l : List Sect) (b : Int) (v : Value) (w : World) (ha : RvOk w a) (hl : Sec w v l ∧ NilOk v) (hb : (Lit.int .u16 b).wf = true) :
    Calls Try.prog 7 #[.agg #[.int .i64 a.k, .int .i64 a.q, a.d], v, .int .u16 b] w fun e w' => e = .returned (.bool true) ∧ Below w.heap.size w w' := by
  obtain ⟨cn, rfl, hcn⟩ := u16_nat hb
  obtain ⟨k, q, d, p⟩ := a
  obtain ⟨hp, hpn, _, _⟩ := ha
  dsimp only at hp hpn
  obtain ⟨hs, hsn⟩ := hl
  obtain ⟨A, c, rfl⟩ := byt_form hp
  obtain ⟨D, e, rfl⟩ := sec_form hs
  obtain ⟨W1, hW1⟩ : ∃ W1, w.alloc (.cells #[.int .i64 k, .int .i64 q, .slice A p.length c] 27) = W1 := ⟨_, rfl⟩
  have hb1 : Below w.heap.size w W1 := by rw [← hW1]; exact al1 _ _
  have hx1 : W1.heap[w.heap.size]? = some (.cells #[.int .i64 k, .int .i64 q, .slice A p.length c] 27) := by rw [← hW1]; exact heap_alloc_new _ _
  have c0 : W1.cell? ⟨w.heap.size, 0, none⟩ = some (.int .i64 k) := cell_of_row _ _ 0 _ _ _ hx1
  have c1 : W1.cell? ⟨w.heap.size, 1, none⟩ = some (.int .i64 q) := cell_of_row _ _ 1 _ _ _ hx1
  have c2 : W1.cell? ⟨w.heap.size, 2, none⟩ = some (.slice A p.length c) := cell_of_row _ _ 2 _ _ _ hx1
  have HP := hid hp
  have HS := hid hs
  have HSN := hid hsn
  have HB1 := hid hb1
  obtain ⟨N, hN⟩ : ∃ N, p.length = N := ⟨_, rfl⟩
  obtain ⟨L, hL⟩ : ∃ L, l.length = L := ⟨_, rfl⟩
  have HN := hid hN
  have HL := hid hL
  rw [hN] at HP c2 hW1 ⊢
  rw [hL] at HS HSN ⊢
  have HW1 := hid hW1
  clear hp hpn hs hsn hb1 hx1 hb hN hL hW1
  by_cases h1 : 300 < N
  · have d1 : decide ((300 : Int) < (N : Int)) = true := decide_eq_true (by omega)
    go_enter Try.func7, Try.ntmps7
    go_wp2_with fail
    rw [HW1.out]
    refine (awake_any W1).mono ?_
    rintro e w2 ⟨rfl, hb2⟩
    have HB2 := hid (HB1.out.trans (hb2.mono HB1.out.size))
    clear hb2
    go_wp2
    go_ret
    exact ⟨rfl, HB2.out⟩
  have d1 : decide ((300 : Int) < (N : Int)) = false := decide_eq_false (by omega)
  by_cases h2 : 100 < L
  · have d2 : decide ((100 : Int) < (L : Int)) = true := decide_eq_true (by omega)
    go_enter Try.func7, Try.ntmps7
    go_wp2_with fail
    rw [HW1.out]
    refine (awake_any W1).mono ?_
    rintro e w2 ⟨rfl, hb2⟩
    have HB2 := hid (HB1.out.trans (hb2.mono HB1.out.size))
    clear hb2
    go_wp2
    go_ret
    exact ⟨rfl, HB2.out⟩
  have d2 : decide ((100 : Int) < (L : Int)) = false := decide_eq_false (by omega)
  obtain ⟨n, hn⟩ : ∃ n, size N = n := ⟨_, rfl⟩
  have hn2 : 2 ≤ n ∧ n ≤ 100 := by rw [← hn]; unfold size; omega
  have HSZ := hid (show szI (N : Int) = (n : Int) by rw [← hn]; exact szI_nat (by omega))
  have HN4 := hid (show p.length ≤ 4096 by rw [HN.out]; omega)
  have HNS := hid hn
  obtain ⟨K, hK⟩ : ∃ K, fk k = K := ⟨_, rfl⟩
  obtain ⟨Q, hQ⟩ : ∃ Q, fq q = Q := ⟨_, rfl⟩
  have hk := fk_ok k
  have hq := fq_ok q
  have HEN := hid (encS_fit k q HN4.out)
  have hfit := fit_any k q (.slice A N c) A N c W1 rfl
  rw [hK] at hk hfit HEN
  rw [hQ] at hq hfit HEN
  have HFIT := hid hfit
  clear hfit hn hK hQ
  go_enter Try.func7, Try.ntmps7
  go_wp2_with fail
  rw [HW1.out]
  refine HFIT.out.mono ?_
  rintro e w2 ⟨rfl, hb2⟩
  obtain ⟨W3, hW3⟩ : ∃ W3, w2.alloc (.cells #[.int .i64 (K : Int), .int .i64 (Q : Int), .slice A N c] 27) = W3 := ⟨_, rfl⟩
  have hb3 : Below w2.heap.size w2 W3 := by rw [← hW3]; exact al1 _ _
  have hx3 : W3.heap[w2.heap.size]? = some (.cells #[.int .i64 (K : Int), .int .i64 (Q : Int), .slice A N c] 27) := by rw [← hW3]; exact heap_alloc_new _ _
  have hbw3 : Below w.heap.size w W3 := HB1.out.trans ((hb2.trans (hb3.mono hb2.size)).mono HB1.out.size)
  have x0 : W3.cell? ⟨w2.heap.size, 0, none⟩ = some (.int .i64 (K : Int)) := cell_of_row _ _ 0 _ _ _ hx3
  have x1 : W3.cell? ⟨w2.heap.size, 1, none⟩ = some (.int .i64 (Q : Int)) := cell_of_row _ _ 1 _ _ _ hx3
  have x2 : W3.cell? ⟨w2.heap.size, 2, none⟩ = some (.slice A N c) := cell_of_row _ _ 2 _ _ _ hx3
  have HENC := hid (encode_any K Q p _ W3 (HP.out.below hbw3) (by omega) (by omega))
  have HX3 := hid hx3
  have HB3 := hid hbw3
  subst hW3
  obtain ⟨W3, hW3⟩ : ∃ W3, w2.alloc (.cells #[.int .i64 (K : Int), .int .i64 (Q : Int), .slice A N c] 27) = W3 := ⟨_, rfl⟩
  have HW3 := hid hW3
  obtain ⟨g, hg⟩ : ∃ g, w2.heap.size = g := ⟨_, rfl⟩
  have HGE := hid hg
  clear hb2 hb3 hx3 hbw3 c0 c1 c2 HFIT hW3 hg
  go_wp2_with fail
  refine HENC.out.mono ?_
  rintro e w4 h4
  obtain ⟨v4, rfl, hb4, hs4, ho4⟩ := enc_li h4 HEN.out
  rw [HW3.out] at hb4 ho4 HX3 HB3
  rw [HGE.out] at HX3
  have hs4' := sec_of_own ho4 hs4
  have hel : (encR K Q p).length = n := by rw [encR_len, HN.out, HNS.out]
  rw [hel] at ho4
  obtain ⟨A4, c4, rfl⟩ := own_formE ho4
  have HB4 := hid (HB3.out.trans (hb4.mono HB3.out.size))
  have hx4 := (hb4.block g (box_lt HX3.out)).trans HX3.out
  have HX4 := hid hx4
  have HS4 := hid hs4'
  have HN4k := hid (own_nilOkE ho4)
  have HEL := hid hel
  have y2 : w4.cell? ⟨g, 2, none⟩ = some (.slice A N c) := cell_of_row _ _ 2 _ _ _ hx4
  have dn0 : ((n : Int) == 0) = false := by rw [beq_eq_false_iff_ne]; omega
  clear h4 hb4 hs4 ho4 hs4' hel hx4 HENC x0 x1 x2 HX3 HB3
  rw [HGE.out]
  go_wp2_with fail
  refine (size_any (N : Int) _).mono ?_
  rintro e w' ⟨rfl, rfl⟩
  rw [HSZ.out]
  obtain ⟨W5, hW5⟩ : ∃ W5, w4.alloc (.cells #[] 52) = W5 := ⟨_, rfl⟩
  have ho5 := own_empty52 w4
  have hb5 : Below w4.heap.size w4 W5 := by rw [← hW5]; exact al1 _ _
  rw [hW5] at ho5
  have HO5 := hid ho5
  have HB5 := hid (HB4.out.trans (hb5.mono HB4.out.size))
  have HS5 := hid (HS4.out.below hb5)
  have HB45 := hid hb5
  have HX5 := hid ((hb5.block g (box_lt HX4.out)).trans HX4.out)
  have hwz : w4.heap.size ≤ W5.heap.size := hb5.size
  subst hW5
  have hww : w.heap.size ≤ w4.heap.size := HB4.out.size
  clear ho5 hb5
  go_wp2_with (first
    | (at_builtin; refine append_sec rfl (.tmp 50) (.tmp 51) rfl w4.heap.size _ 0 _ rfl HO5.out (encR K Q p) _ rfl HS5.out HN4k.out (by rw [HEL.out]; omega) hwz ?_; intro v6 W6 ho6 hg6; rw [HEL.out] at ho6; have HB6 := hid (below_ownE HB5.out HO5.out hg6 HB5.out.size hww); have HB46 := hid (below_ownE HB45.out HO5.out hg6 HB45.out.size (Nat.le_refl _)); have HX6 := hid (keep_grown HO5.out (T := 27) (by decide) hg6 g _ HX5.out); have HO6 := hid ho6; have hz6 := Nat.le_trans hwz hg6.size; clear ho6 hg6)
    | (at_builtin; refine append_sec rfl (.tmp 52) (.tmp 53) rfl w4.heap.size _ (0 + n) _ rfl HO6.out l _ rfl (HS.out.below HB6.out) HSN.out (by have := HL.out; omega) hz6 ?_; intro v7 W7 ho7 hg7; have HB7 := hid (below_ownE HB6.out HO6.out hg7 HB6.out.size hww); have HB47 := hid (below_ownE HB46.out HO6.out hg7 HB46.out.size (Nat.le_refl _)); have HX7 := hid (keep_grown HO6.out (T := 27) (by decide) hg7 g _ HX6.out); have HO7 := hid ho7; clear ho7 hg7)
    | fail)
  have hsecs : Secs (encR K Q p ++ l) := fun s hs => (List.mem_append.1 hs).elim (HS4.out.1 s) (HS.out.1 s)
  have ho7 := HO7.out
  rw [List.nil_append, ← List.flatten_append, ← List.map_append, show 0 + n + l.length = (encR K Q p ++ l).length by rw [List.length_append, HEL.out]; omega] at ho7
  have hp8 : B8 p := HP.out.1
  have hde := dR_enc (k := K) (q := Q) (p := p) hp8 HN4.out (by omega) (by omega) (by omega) (by omega) l
  rw [HN.out, HNS.out] at hde
  have HDE := hid hde
  have HDC := hid (decode_any _ v7 W7 (sec_of_own ho7 hsecs) (by rw [List.length_append, HEL.out, HL.out]; omega))
  clear hsecs ho7 hde HO5 HO6 HO7 HX5 HX6 HB5 HB6 HS5
  go_wp2_with fail
  refine HDC.out.mono ?_
  rintro e w8 h8
  obtain ⟨pA, pc, rfl, hb8, h88, ho8⟩ := dec_ok h8 HDE.out
  dsimp only at h88 ho8 ⊢
  have hv8 := byt_of_own ho8 h88
  rw [HN.out] at hv8 ⊢
  obtain ⟨W9, hW9⟩ : ∃ W9, w8.alloc (.cells #[.int .i64 (K : Int), .int .i64 (Q : Int), .slice pA N pc] 27) = W9 := ⟨_, rfl⟩
  have hb9 : Below w8.heap.size w8 W9 := by rw [← hW9]; exact al1 _ _
  have hx9 : W9.heap[w8.heap.size]? = some (.cells #[.int .i64 (K : Int), .int .i64 (Q : Int), .slice pA N pc] 27) := by rw [← hW9]; exact heap_alloc_new _ _
  have hb79 : Below W7.heap.size W7 W9 := hb8.trans (hb9.mono hb8.size)
  have HY9 := hid hx9
  have HB9 := hid (HB7.out.trans (hb79.mono HB7.out.size))
  have HX9 := hid ((hb79.block g (box_lt HX7.out)).trans HX7.out)
  have HV9 := hid (hv8.below hb9)
  have hS9 : Sec W9 (.slice A4 n c4) (encR K Q p) := HS4.out.below (HB47.out.trans (hb79.mono HB47.out.size))
  obtain ⟨z, hz⟩ : ∃ z, cn % n = z := ⟨_, rfl⟩
  have hzn : z < n := by rw [← hz]; exact Nat.mod_lt _ (by omega)
  have htm : Int.tmod (cn : Int) (n : Int) = (z : Int) := by rw [← hz]; exact (Int.ofNat_tmod cn n).symm
  have hsc := sec_cap hS9
  rw [HEL.out] at hsc
  have hr := fun W : World => run_secs_to A4 n c4 z (by omega) W
  have hS9t := sec_upto hS9 z
  have htl : ((encR K Q p).take z).length = z := by rw [List.length_take, HEL.out]; omega
  rw [htl] at hS9t
  have HDC2 := hid (decode_any ((encR K Q p).take z) _ W9 hS9t (by rw [htl]; omega))
  have HTN := hid (dR_torn (k := K) (q := Q) (p := p) HN4.out (by omega) (by omega) (c := z) (by rw [HN.out, HNS.out]; exact hzn))
  have hwcn : IntKind.i64.wrap (cn : Int) = (cn : Int) := wrap64_nat (by omega)
  have hzc : (z : Int) ≤ (c4 : Int) := by omega
  have hn0 : ¬ (n : Int) = 0 := by omega
  subst hW9
  obtain ⟨h, hh⟩ : ∃ h, w8.heap.size = h := ⟨_, rfl⟩
  have HHE := hid hh
  clear h8 hb8 h88 ho8 hv8 hb9 hx9 hb79 hS9 hz hsc hS9t htl HDC HDE HS4 hh
  go_wp2_with fail
  refine HDC2.out.mono ?_
  rintro e w10 h10
  obtain ⟨rfl, hb10⟩ := dec_er h10 HTN.out
  obtain ⟨W9, hW9⟩ : ∃ W9, w8.alloc (.cells #[.int .i64 (K : Int), .int .i64 (Q : Int), .slice pA N pc] 27) = W9 := ⟨_, rfl⟩
  rw [hW9] at hb10 HY9 HB9 HX9 HV9
  rw [HHE.out] at HY9 ⊢
  obtain ⟨W11, hW11⟩ : ∃ W11, w10.alloc (.cells #[.int .i64 0, .int .i64 0, .slice none 0 0] 27) = W11 := ⟨_, rfl⟩
  have hb11 : Below w10.heap.size w10 W11 := by rw [← hW11]; exact al1 _ _
  have hb911 : Below W9.heap.size W9 W11 := hb10.trans (hb11.mono hb10.size)
  have HB911 := hid hb911
  have HW11 := hid hW11
  clear h10 hb10 hb11 hb911 hW11 hW9 HDC2 HTN
  go_wp2_with fail
  rw [HW11.out]
  refine (awake_any W11).mono ?_
  rintro e w12 ⟨rfl, hb12⟩
  have hb912 : Below W9.heap.size W9 w12 := HB911.out.trans (hb12.mono HB911.out.size)
  have hbw12 : Below w.heap.size w w12 := HB9.out.trans (hb912.mono HB9.out.size)
  have hx12 := (hb912.block g (box_lt HX9.out)).trans HX9.out
  have hy12 := (hb912.block h (box_lt HY9.out)).trans HY9.out
  have x0 : w12.cell? ⟨g, 0, none⟩ = some (.int .i64 (K : Int)) := cell_of_row _ _ 0 _ _ _ hx12
  have x1 : w12.cell? ⟨g, 1, none⟩ = some (.int .i64 (Q : Int)) := cell_of_row _ _ 1 _ _ _ hx12
  have x2 : w12.cell? ⟨g, 2, none⟩ = some (.slice A N c) := cell_of_row _ _ 2 _ _ _ hx12
  have y0 : w12.cell? ⟨h, 0, none⟩ = some (.int .i64 (K : Int)) := cell_of_row _ _ 0 _ _ _ hy12
  have y1 : w12.cell? ⟨h, 1, none⟩ = some (.int .i64 (Q : Int)) := cell_of_row _ _ 1 _ _ _ hy12
  have y2 : w12.cell? ⟨h, 2, none⟩ = some (.slice pA N pc) := cell_of_row _ _ 2 _ _ _ hy12
  have hsame := same_any (K : Int) (Q : Int) (K : Int) (Q : Int) p p _ _ w12 (HP.out.below hbw12) (HV9.out.below hb912)
  rw [decide_eq_true (show (K : Int) = K ∧ (Q : Int) = Q ∧ p = p from ⟨rfl, rfl, rfl⟩)] at hsame
  have HSAME := hid hsame
  have HB12 := hid hbw12
  have dnn : ((n : Int) == (n : Int)) = true := by simp
  clear hb12 hb912 hbw12 hx12 hy12 hsame
  go_wp2_with fail
  refine HSAME.out.mono ?_
  rintro e w13 ⟨rfl, hb13⟩
  have HB13 := hid (HB12.out.trans (hb13.mono HB12.out.size))
  clear hb13
  go_wp2
  go_ret
  exact ⟨rfl, HB13.out⟩
end Go.Proofs.Ytcmmkeadbedooaa
