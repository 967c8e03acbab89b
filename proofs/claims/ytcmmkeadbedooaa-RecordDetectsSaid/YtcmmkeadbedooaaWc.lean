/- The law RecordDetects. -/
import Derived.Test.YtcmmkeadbedooaaX
import Derived.Test.YtcmmkeadbedooaaV
import Derived.Test.YtcmmkeadbedooaaF
import Derived.BigRegion
namespace Go.Proofs.Ytcmmkeadbedooaa
open Go.RowKit Go.Lib

theorem own_set {w : World} {base E st n c g j : Nat} {xs : List Value} (h : w.ownsRow base E st (.slice (some ⟨g, 0, none⟩) n c) n xs) (_hj : j < xs.length) (x : Value) :
    (w.setCell ⟨g, j, none⟩ x).ownsRow base E st (.slice (some ⟨g, 0, none⟩) n c) n (xs.set j x) := by
  have hF := h.1
  rcases h.2 with ⟨e, _⟩ | ⟨g', cap, cur, e, hb, hg, hc, hcm, hs, ht⟩
  · cases e
  · injection e with e1 e2 e3
    injection e1 with e1
    injection e1 with e1
    subst e1
    subst e3
    refine ⟨by rw [List.length_set]; exact hF, .inr ⟨g, c, _, rfl, hb, heap_setCell_same w _ _ _ _ _ hg, hc, hcm, by simpa using hs, ?_⟩⟩
    rw [Array.toList_setIfInBounds, List.take_set, ht]
theorem flat_set {rows : List (List Value)} {i j : Nat} {r : List Value} {x : Value} (h : ∀ r ∈ rows, r.length = 8) (hi : rows[i]? = some r) (hj : j < 8) : rows.flatten.set (i * 8 + j) x = (rows.set i (r.set j x)).flatten := by
  induction rows generalizing i with
  | nil => simp at hi
  | cons t rows ih =>
    have ht := h t (List.mem_cons_self ..)
    cases i with
    | zero =>
      simp at hi; subst hi
      rw [Nat.zero_mul, Nat.zero_add, List.flatten_cons, List.set_append_left _ _ (by omega), List.set_cons_zero, List.flatten_cons]
    | succ i =>
      simp at hi
      rw [List.flatten_cons, List.set_append_right _ _ (by omega), ht, show (i + 1) * 8 + j - 8 = i * 8 + j by omega, ih (fun r hr => h r (List.mem_cons_of_mem _ hr)) hi, List.set_cons_succ, List.flatten_cons]

set_option maxHeartbeats 4000000 in
set_option maxRecDepth 100000 in
theorem detects_walk (a : Rv) (c0 b0 : Int) (w : World) (ha : RvOk w a) (hc0 : (Lit.int .u16 c0).wf = true) (hb0 : (Lit.int .u8 b0).wf = true) :
    Calls Try.prog 9 #[.agg #[.int .i64 a.k, .int .i64 a.q, a.d], .int .u16 c0, .int .u8 b0] w fun e w' => e = .returned (.bool true) ∧ Below w.heap.size w w' := by
  obtain ⟨cn, rfl, hcn⟩ := u16_nat hc0
  have hbb := bounds_u8 hb0
  obtain ⟨b, rfl⟩ := Int.eq_ofNat_of_zero_le hbb.1
  obtain ⟨k, q, d, p⟩ := a
  obtain ⟨hp, hpn, _, _⟩ := ha
  dsimp only at hp hpn
  obtain ⟨A, c, rfl⟩ := byt_form hp
  obtain ⟨W1, hW1⟩ : ∃ W1, w.alloc (.cells #[.int .i64 k, .int .i64 q, .slice A p.length c] 27) = W1 := ⟨_, rfl⟩
  have hb1 : Below w.heap.size w W1 := by rw [← hW1]; exact al1 _ _
  have hx1 : W1.heap[w.heap.size]? = some (.cells #[.int .i64 k, .int .i64 q, .slice A p.length c] 27) := by rw [← hW1]; exact heap_alloc_new _ _
  have c0 : W1.cell? ⟨w.heap.size, 0, none⟩ = some (.int .i64 k) := cell_of_row _ _ 0 _ _ _ hx1
  have c1 : W1.cell? ⟨w.heap.size, 1, none⟩ = some (.int .i64 q) := cell_of_row _ _ 1 _ _ _ hx1
  have c2 : W1.cell? ⟨w.heap.size, 2, none⟩ = some (.slice A p.length c) := cell_of_row _ _ 2 _ _ _ hx1
  have HP := hid hp
  have HB1 := hid hb1
  obtain ⟨N, hN⟩ : ∃ N, p.length = N := ⟨_, rfl⟩
  have HN := hid hN
  rw [hN] at HP c2 hW1 ⊢
  have HW1 := hid hW1
  have hb256 : b < 256 := by have := hbb.2; omega
  clear hp hpn hb1 hx1 hb0 hN hW1 hbb hc0
  by_cases h1 : 300 < N
  · have d1 : decide ((300 : Int) < (N : Int)) = true := decide_eq_true (by omega)
    go_enter Try.func9, Try.ntmps9
    go_wp2_with fail
    rw [HW1.out]
    refine (awake_any W1).mono ?_
    rintro e w2 ⟨rfl, hb2⟩
    have HB2 := hid (HB1.out.trans (hb2.mono HB1.out.size))
    clear hb2
    go_wp2
    go_ret
    exact ⟨rfl, HB2.out⟩
  have d1 : decide ((300 : Int) < (N : Int)) = false := decide_eq_false (by omega)
  by_cases h2 : b = 0
  · subst h2
    go_enter Try.func9, Try.ntmps9
    go_wp2_with fail
    rw [HW1.out]
    refine (awake_any W1).mono ?_
    rintro e w2 ⟨rfl, hb2⟩
    have HB2 := hid (HB1.out.trans (hb2.mono HB1.out.size))
    clear hb2
    go_wp2
    go_ret
    exact ⟨rfl, HB2.out⟩
  have d2 : ((b : Int) == 0) = false := by rw [beq_eq_false_iff_ne]; omega
  obtain ⟨n, hn⟩ : ∃ n, size N = n := ⟨_, rfl⟩
  have hn2 : 2 ≤ n ∧ n ≤ 100 := by rw [← hn]; unfold size; omega
  have HN4 := hid (show p.length ≤ 4096 by rw [HN.out]; omega)
  have HNS := hid hn
  obtain ⟨K, hK⟩ : ∃ K, fk k = K := ⟨_, rfl⟩
  obtain ⟨Q, hQ⟩ : ∃ Q, fq q = Q := ⟨_, rfl⟩
  have hk := fk_ok k
  have hq := fq_ok q
  have HEN := hid (encS_fit k q HN4.out)
  have hfit := fit_any k q (.slice A N c) A N c W1 rfl
  rw [hK] at hk hfit HEN
  rw [hQ] at hq hfit HEN
  have HFIT := hid hfit
  clear hfit hn hK hQ
  go_enter Try.func9, Try.ntmps9
  go_wp2_with fail
  rw [HW1.out]
  refine HFIT.out.mono ?_
  rintro e w3 ⟨rfl, hb3⟩
  have HB3 := hid (HB1.out.trans (hb3.mono HB1.out.size))
  have HENC := hid (encode_any K Q p _ w3 (HP.out.below HB3.out) (by omega) (by omega))
  clear hb3 c0 c1 c2 HFIT
  go_wp2_with fail
  refine HENC.out.mono ?_
  rintro e w4 h4
  obtain ⟨v4, rfl, hb4, hs4, ho4⟩ := enc_li h4 HEN.out
  have hs4' := sec_of_own ho4 hs4
  have hel : (encR K Q p).length = n := by rw [encR_len, HN.out, HNS.out]
  rw [hel] at ho4
  obtain ⟨A4, c4, rfl⟩ := own_formE ho4
  have HB4 := hid (HB3.out.trans (hb4.mono HB3.out.size))
  have HS4 := hid hs4'
  have HN4k := hid (own_nilOkE ho4)
  have HEL := hid hel
  have dn0 : ((n : Int) == 0) = false := by rw [beq_eq_false_iff_ne]; omega
  obtain ⟨m, hm⟩ : ∃ m, 4 * n = m := ⟨_, rfl⟩
  have hwm : IntKind.i64.wrap (4 * (n : Int)) = (m : Int) := by rw [show 4 * (n : Int) = (m : Int) by omega]; exact wrap64_nat (by omega)
  obtain ⟨i, hi⟩ : ∃ i, cn % m = i := ⟨_, rfl⟩
  have him : i < m := by rw [← hi]; exact Nat.mod_lt _ (by omega)
  have htm : Int.tmod (cn : Int) (m : Int) = (i : Int) := by rw [← hi]; exact (Int.ofNat_tmod cn m).symm
  have hm0 : ¬ (m : Int) = 0 := by omega
  clear h4 hb4 hs4 ho4 hs4' hel HENC hi
  by_cases hi12 : i = 1 ∨ i = 2
  · have hawk : ∀ x : Nat, i = x → (x = 1 ∨ x = 2) → True := fun _ _ _ => trivial
    clear hawk
    rcases hi12 with rfl | rfl
    all_goals
      go_wp2_with fail
      refine (awake_any w4).mono ?_
      rintro e w5 ⟨rfl, hb5⟩
      have HB5 := hid (HB4.out.trans (hb5.mono HB4.out.size))
      clear hb5
      go_wp2
      go_ret
      exact ⟨rfl, HB5.out⟩
  have di1 : ((i : Int) == 1) = false := by rw [beq_eq_false_iff_ne]; omega
  have di2 : ((i : Int) == 2) = false := by rw [beq_eq_false_iff_ne]; omega
  obtain ⟨W5, hW5⟩ : ∃ W5, w4.alloc (.cells #[] 52) = W5 := ⟨_, rfl⟩
  have ho5 := own_empty52 w4
  have hb5 : Below w4.heap.size w4 W5 := by rw [← hW5]; exact al1 _ _
  rw [hW5] at ho5
  have HO5 := hid ho5
  have HB5 := hid (HB4.out.trans (hb5.mono HB4.out.size))
  have HS5 := hid (HS4.out.below hb5)
  have hwz : w4.heap.size ≤ W5.heap.size := hb5.size
  have hww : w.heap.size ≤ w4.heap.size := HB4.out.size
  subst hW5
  clear ho5 hb5
  go_wp2_with (first
    | (at_builtin; refine append_sec rfl (.tmp 49) (.tmp 50) rfl w4.heap.size _ 0 _ rfl HO5.out (encR K Q p) _ rfl HS5.out HN4k.out (by rw [HEL.out]; omega) hwz ?_; intro v6 W6 ho6 hg6; rw [HEL.out, Nat.zero_add, List.nil_append] at ho6; have HB6 := hid (below_ownE HB5.out HO5.out hg6 HB5.out.size hww); obtain ⟨A6, c6, rfl⟩ := own_formE ho6; have HO6 := hid ho6; clear ho6 hg6)
    | fail)
  obtain ⟨cb, rfl⟩ := own_some HO6.out (by omega)
  obtain ⟨r, hr⟩ : ∃ r, i / 4 = r := ⟨_, rfl⟩
  obtain ⟨j, hj⟩ : ∃ j, i % 4 = j := ⟨_, rfl⟩
  have hj4 : j < 4 := by omega
  have hrn : r < n := by omega
  obtain ⟨s, hs⟩ : ∃ s, (encR K Q p)[r]? = some s := ⟨(encR K Q p)[r]'(by rw [HEL.out]; exact hrn), List.getElem?_eq_getElem _⟩
  obtain ⟨hs8, hsb⟩ := HS4.out.1 s (List.mem_of_getElem? hs)
  obtain ⟨u, hu⟩ : ∃ u, s[4 + j]? = some u := ⟨s[4 + j]'(by omega), List.getElem?_eq_getElem _⟩
  have hu8 := hsb u (List.mem_of_getElem? hu)
  have hx8 : u ^^^ b < 256 := Nat.xor_lt_two_pow (n := 8) (by omega) (by omega)
  have hxne : u ^^^ b ≠ u := fun e => h2 (by
    have := congrArg (fun x => u ^^^ x) e
    simp only [← Nat.xor_assoc, Nat.xor_self, Nat.zero_xor] at this
    exact this)
  have hrow : ((encR K Q p).map cSec)[r]? = some (cSec s) := by rw [List.getElem?_map, hs]; rfl
  have hfl := flat_getG (secs_rows HS4.out.1) hrow (j := 4 + j) (by omega)
  have hcu : ((encR K Q p).map cSec).flatten[r * 8 + (4 + j)]? = some (byteV u) := by
    rw [hfl]; unfold cSec; rw [List.getElem?_map, hu]; rfl
  have hcell := own_cells HO6.out hcu
  rw [add_at'] at hcell
  have hset := own_set HO6.out (j := r * 8 + (4 + j)) (List.getElem?_eq_some_iff.1 hcu).1 (byteV (u ^^^ b))
  rw [flat_set (secs_rows HS4.out.1) hrow (by omega)] at hset
  have hrows : ((encR K Q p).map cSec).set r ((cSec s).set (4 + j) (byteV (u ^^^ b))) = ((encR K Q p).set r (s.set (4 + j) (u ^^^ b))).map cSec := by
    rw [List.map_set]; unfold cSec; rw [List.map_set]
  rw [hrows] at hset
  have hchg := dR_changed (k := K) (q := Q) (i := i) (u := u) (v := u ^^^ b) (s := s) HP.out.1 HN4.out (by omega) (by omega) (fun h => hi12 (.inl h)) (fun h => hi12 (.inr h)) (by rw [hr]; exact hs) (by rw [hj]; exact hu) hx8 hxne
  rw [hr, hj] at hchg
  have hsn : Secs ((encR K Q p).set r (s.set (4 + j) (u ^^^ b))) := fun y hy => by
    rcases List.mem_or_eq_of_mem_set hy with h | h
    · exact HS4.out.1 y h
    · rw [h]; exact ⟨by rw [List.length_set]; exact hs8, b8_set hsb _ hx8⟩
  have hln : ((encR K Q p).set r (s.set (4 + j) (u ^^^ b))).length = n := by rw [List.length_set, HEL.out]
  have hfro : W6.frozen? ⟨cb, r * 8 + (4 + j), none⟩ = false := by
    rcases HO6.out.2 with ⟨e, _⟩ | ⟨g', cap, cur, e, _, hg, _⟩
    · cases e
    · injection e with e1; injection e1 with e1; injection e1 with e1; subst e1
      exact frozen_of_row _ _ _ _ _ hg
  obtain ⟨t, ht⟩ : ∃ t, 4 + j = t := ⟨_, rfl⟩
  rw [ht] at hcell hset hchg hsn hln hfro
  have hcell' : W6.cell? ⟨cb, r * 8 + t, none⟩ = some (.int .u8 (u : Int)) := by
    have h := hcell; first | exact h | (rw [Nat.zero_add] at h; exact h)
  have hq1 : Int.tdiv (i : Int) 4 = (r : Int) := by rw [Int.tdiv_eq_ediv_of_nonneg (by omega)]; omega
  have hq2 : (i : Int) / 4 = (r : Int) := by omega
  have hm1 : Int.tmod (i : Int) 4 = (j : Int) := by rw [Int.tmod_eq_emod_of_nonneg (by omega)]; omega
  have hm2 : (i : Int) % 4 = (j : Int) := by omega
  have hwt : IntKind.i64.wrap (4 + (j : Int)) = (t : Int) := by rw [show 4 + (j : Int) = (t : Int) by omega]; exact wrap64_nat (by omega)
  have hte : 4 + (j : Int) = (t : Int) := by omega
  have ht8 : (t : Int) < 8 := by omega
  have hrc : (r : Int) < (n : Int) := by omega
  have hxor := u8_xor_nat u b hu8 (by omega)
  have HSET := hid hset
  have HCHG := hid hchg
  have HSNN := hid hsn
  have HLN := hid hln
  have hcbw : w.heap.size ≤ cb := Nat.le_trans hww (HO6.out.lt cb rfl).1
  clear hcell hset hchg hsn hln hrow hfl hcu hrows hs hu hs8 hsb hr hj ht HS4 HS5 HO5 HB5 hwz
  go_region
  obtain ⟨W7, hW7⟩ : ∃ W7, W6.setCell ⟨cb, r * 8 + t, none⟩ (.int .u8 ((u ^^^ b : Nat) : Int)) = W7 := ⟨_, rfl⟩
  have ho7 : W7.ownsRow w4.heap.size 52 8 (.slice (some ⟨cb, 0, none⟩) n c6) n ((((encR K Q p).set r (s.set t (u ^^^ b))).map cSec).flatten) := by rw [← hW7]; exact HSET.out
  have HB7 := hid (show Below w.heap.size w W7.drew from by rw [← hW7]; exact below_drew (HB6.out.setCell (p := ⟨cb, r * 8 + t, none⟩) hcbw _))
  have hd7 : W7.drew.ownsRow w4.heap.size 52 8 (.slice (some ⟨cb, 0, none⟩) n c6) ((encR K Q p).set r (s.set t (u ^^^ b))).length ((((encR K Q p).set r (s.set t (u ^^^ b))).map cSec).flatten) := by rw [HLN.out]; exact ho7
  have HDC := hid (decode_any _ _ W7.drew (sec_of_own hd7 HSNN.out) (by rw [HLN.out]; omega))
  rw [hW7]
  obtain ⟨er, her, HDR⟩ : ∃ er : Int, (er = 9 ∨ er = 3) ∧ Hid (dR ((encR K Q p).set r (s.set t (u ^^^ b))) = .error er) := by
    rcases HCHG.out with h | h
    · exact ⟨9, .inl rfl, hid h⟩
    · exact ⟨3, .inr rfl, hid h⟩
  clear hW7 ho7 hd7 HSET HCHG HO6 HB6 hcell' hfro hxor
  go_wp2_with fail
  refine HDC.out.mono ?_
  rintro e w8 h8
  obtain ⟨rfl, hb8⟩ := dec_er h8 HDR.out
  obtain ⟨W9, hW9⟩ : ∃ W9, w8.alloc (.cells #[.int .i64 0, .int .i64 0, .slice none 0 0] 27) = W9 := ⟨_, rfl⟩
  have HB9 := hid (show Below w.heap.size w W9 from by rw [← hW9]; exact (HB7.out.trans (hb8.mono HB7.out.size)).alloc (Nat.le_trans HB7.out.size hb8.size) _)
  have HW9 := hid hW9
  clear h8 hb8 hW9 HDC
  go_wp2_with fail
  rw [HW9.out]
  refine (awake_any W9).mono ?_
  rintro e w10 ⟨rfl, hb10⟩
  have HB10 := hid (HB9.out.trans (hb10.mono HB9.out.size))
  clear hb10
  rcases her with rfl | rfl
  · go_wp2
    go_ret
    exact ⟨rfl, HB10.out⟩
  · go_wp2
    go_ret
    exact ⟨rfl, HB10.out⟩
end Go.Proofs.Ytcmmkeadbedooaa
