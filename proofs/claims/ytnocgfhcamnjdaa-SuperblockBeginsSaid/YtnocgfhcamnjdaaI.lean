/- Read. -/
import Derived.Test.YtnocgfhcamnjdaaH
import Derived.Test.YtnocgfhcamnjdaaI0
namespace Go.Proofs.Ytnocgfhcamnjdaa
open Go.RowKit Go.Lib

theorem own_cell {w : World} {base E st n b c : Nat} {xs : List Value} (h : w.ownsRow base E st (.slice (some ⟨b, 0, none⟩) n c) n xs) (i : Nat) (x : Value) (hx : xs[i]? = some x) : w.cell? ⟨b, i, none⟩ = some x := by
  obtain ⟨_, _, cur, hg, _, ht⟩ := own_at h
  rw [← ht, List.getElem?_take] at hx
  split at hx
  · rw [cell_of_row _ _ i _ _ _ hg]
    simpa using hx
  · cases hx
set_option maxHeartbeats 8000000 in
set_option maxRecDepth 100000 in
theorem read_any (st : List Sect) (ca : List Ca) (sv cv : Value) (s m : Int) (w : World) (hs : Sec w sv st) (hsn : NilOk sv) (hc : Cas w cv ca) (hr : R64 s) (hr2 : R64 m) :
    Calls Try.prog 44 #[.agg #[sv, cv], .agg #[.int .i64 s, .int .i64 m]] w (ReadQ w st ca s m) := by
  obtain ⟨A, c, rfl⟩ := sec_form hs
  obtain ⟨B, d, rfl⟩ := cas_form hc
  obtain ⟨n, hn⟩ : ∃ n, st.length = n := ⟨_, rfl⟩
  obtain ⟨N, hN⟩ : ∃ n, ca.length = n := ⟨_, rfl⟩
  obtain ⟨hr0, hr1⟩ := hr
  obtain ⟨hr2, hr3⟩ := hr2
  rw [hn] at hs hsn ⊢
  rw [hN] at hc ⊢
  unfold ReadQ
  rw [hn]
  obtain ⟨ck, hck⟩ : ∃ k, chkD n ca = k := ⟨_, rfl⟩
  obtain ⟨g, hg⟩ : ∃ g, w.heap.size = g := ⟨_, rfl⟩
  obtain ⟨W1, hW1⟩ : ∃ X, (w.alloc (.cells #[.slice A n c, .slice B N d] 35)).alloc (.cells #[.int .i64 s, .int .i64 m] 97) = X := ⟨_, rfl⟩
  have hb1 : Below w.heap.size w W1 := by rw [← hW1]; exact ((Below.refl _ w).alloc (Nat.le_refl _) _).alloc (by simp) _
  have hx1 : W1.heap[g]? = some (.cells #[.slice A n c, .slice B N d] 35) := by rw [← hW1, ← hg]; exact (Below.heap_alloc _ _ _ (by simp)).trans (heap_alloc_new w _)
  have hy1 : W1.heap[g + 1]? = some (.cells #[.int .i64 s, .int .i64 m] 97) := by rw [← hW1, ← hg]; simpa using heap_alloc_new (w.alloc (.cells #[.slice A n c, .slice B N d] 35)) (.cells #[.int .i64 s, .int .i64 m] 97)
  have HCK := hid (check_any st ca _ _ W1 (hs.below hb1) (hc.below hb1))
  rw [hn, hck] at HCK
  have HS := hid hs
  have HSN := hid hsn
  have HC := hid hc
  have HM := hid hN
  have HSL := hid hs.1
  have HCL : Hid (∀ x ∈ ca, x.2.length = 8 ∧ B8 x.2) := hid (fun x hx => ⟨(hc.1 x hx).1, (hc.1 x hx).2.1⟩)
  have HN := hid hn
  have HCE := hid hck
  have HB1 := hid hb1
  have HX1 := hid hx1
  have HY1 := hid hy1
  have HW1 := hid hW1
  have HG := hid hg
  have x0 := cell_of_row _ _ 0 _ _ _ hx1
  have x1 := cell_of_row _ _ 1 _ _ _ hx1
  clear hs hsn hc hn hN hck hb1 hx1 hy1 hW1 hg
  go_enter Try.func44, Try.ntmps44
  go_upto_region 1 with fail
  rw [HW1.out, HG.out]
  go_wp2_with fail
  refine HCK.out.mono ?_
  rintro e w2 ⟨rfl, hb2⟩
  have hx2 := (hb2.block _ (box_lt HX1.out)).trans HX1.out
  have hy2 := (hb2.block _ (box_lt HY1.out)).trans HY1.out
  have HX2 := hid hx2
  have HY2 := hid hy2
  have HB2 := hid (HB1.out.trans (hb2.mono HB1.out.size))
  clear hb2 HCK x0 x1
  by_cases hc0 : ck = 0
  rotate_left
  · have d1 : (ck != 0) = true := by rw [bne_iff_ne]; exact hc0
    have HQ : Hid (readE n ca s m = ck) := hid (by unfold readE; rw [HCE.out, if_pos hc0])
    have HC0 := hid hc0
    clear hc0 hx2 hy2
    go_wp2_with fail
    go_ret2
    exact ⟨HB2.out, .inl ⟨ck, HQ.out, HC0.out, rfl⟩⟩
  subst hc0
  obtain ⟨hn4, hcc0⟩ := chkD_C HCE.out
  have HCM := hid (chkC_mem hcc0)
  have HRE : Hid (readE n ca s m = if insB n s m = false then 2 else 0) := hid (by unfold readE; rw [HCE.out]; rfl)
  have x0 := cell_of_row _ _ 0 _ _ _ hx2
  have y0 := cell_of_row _ _ 0 _ _ _ hy2
  have y1 := cell_of_row _ _ 1 _ _ _ hy2
  have x1 := cell_of_row _ _ 1 _ _ _ hx2
  have HIS := hid (inside_any A n c (.slice B N d) s m w2 (by omega) ⟨hr0, hr1⟩)
  clear hx2 hy2
  go_upto_region 4 with fail
  go_wp2_with fail
  refine HIS.out.mono ?_
  rintro e w3 ⟨rfl, hb3⟩
  have hx3 := (hb3.block _ (box_lt HX2.out)).trans HX2.out
  have hy3 := (hb3.block _ (box_lt HY2.out)).trans HY2.out
  have HX3 := hid hx3
  have HY3 := hid hy3
  have HB3 := hid (HB2.out.trans (hb3.mono HB2.out.size))
  clear hb3 x0 x1 y0 y1 HIS
  obtain ⟨bi, hbi⟩ : ∃ b, insB n s m = b := ⟨_, rfl⟩
  rw [hbi]
  cases bi
  · have HQ : Hid (readE n ca s m = 2) := hid (HRE.out.trans (if_pos hbi))
    clear hbi hx3 hy3
    go_wp2_with fail
    go_ret2
    exact ⟨HB3.out, .inl ⟨2, HQ.out, by decide, rfl⟩⟩
  have HQ : Hid (readE n ca s m = 0) := hid (HRE.out.trans (if_neg (by rw [hbi]; simp)))
  unfold insB at hbi
  obtain ⟨hs0, hm0, hsm⟩ := of_decide_eq_true hbi
  clear hbi
  obtain ⟨i, rfl⟩ : ∃ i : Nat, s = (i : Int) := ⟨s.toNat, by omega⟩
  obtain ⟨k, rfl⟩ : ∃ k : Nat, m = (k : Int) := ⟨m.toNat, by omega⟩
  have hik : i + k ≤ n := by omega
  have e5 : IntKind.i64.wrap ((i : Int) + (k : Int)) = (i : Int) + (k : Int) := by rw [IntKind.wrap_i64]; omega
  have hnc : n ≤ c := (sec_len HS.out).2.1
  have hsl := fun X => run_slice22 A n c i (i + k) (i : Int) ((i : Int) + (k : Int)) rfl (by omega) (by omega) (by omega) X
  have hmid := sec_mid (HS.out.below HB3.out) i (i + k) (Nat.le_add_right _ _) (by rw [HN.out]; exact hik)
  have hmn := mid_nilOk HSN.out i (i + k - i)
  rw [show i + k - i = k by omega] at hsl hmid hmn
  have hml : ((st.drop i).take k).length = k := by rw [List.length_take, List.length_drop, HN.out]; omega
  have HCL2 := hid (clone_any ((st.drop i).take k) _ w3 hmid hmn (by rw [hml]; omega))
  have HML := hid hml
  have x0 := cell_of_row _ _ 0 _ _ _ hx3
  have y0 := cell_of_row _ _ 0 _ _ _ hy3
  have y1 := cell_of_row _ _ 1 _ _ _ hy3
  obtain ⟨fA, hfA⟩ : ∃ fA, fromS A c i = fA := ⟨_, rfl⟩
  obtain ⟨fc, hfc⟩ : ∃ fc, c - i = fc := ⟨_, rfl⟩
  rw [hfA, hfc] at hsl HCL2
  have hn2 : (i : Int) ≤ 4096 ∧ (k : Int) ≤ 4096 := by omega
  clear hs0 hm0 hsm hmid hmn hml hfA hfc hx3 hy3
  go_upto_region 6 with fail
  go_wp2_with fail
  refine HCL2.out.mono ?_
  rintro e w4 ⟨v4, rfl, ho4, hb4⟩
  rw [HML.out] at ho4
  obtain ⟨A1, c1, rfl⟩ := ownAny_form ho4
  obtain ⟨D, hD⟩ : ∃ D, w3.heap.size = D := ⟨_, rfl⟩
  rw [hD] at ho4
  have HO4 : Hid (w4.ownsRow D 57 8 (.slice A1 k c1) k ((((newL st (ca.take 0)).drop i).take k).map cSec).flatten) := hid ho4
  have HB4 : Hid (Below D w3 w4) := hid (by rw [← hD]; exact hb4)
  have HDD := hid hD
  have hgD : g + 1 < D := by rw [← hD]; exact box_lt HY3.out
  have hwD : w.heap.size ≤ D := by rw [← hD]; exact HB3.out.size
  have HX4 := hid ((HB4.out.block g (by omega)).trans HX3.out)
  have x1 := cell_of_row _ _ 1 _ _ _ HX4.out
  have HC3 := hid (HC.out.below HB3.out)
  clear ho4 hb4 hD x0 y0 y1 e5 hsl HCL2
  go_upto_region 8 with fail
  clear x1
  go_loopw [37] (fun iv wr => ∃ q : Nat, q ≤ N ∧ iv = .int .i64 (q : Int) ∧ Hid (wr.ownsRow D 57 8 (.slice A1 k c1) k ((((newL st (ca.take q)).drop i).take k).map cSec).flatten) ∧ Hid (Below D w3 wr)) (fun i _ => N - (Go.RowKit.intOf i).toNat)
  case atStart => exact ⟨0, Nat.zero_le _, rfl, HO4, HB4⟩
  case round =>
    obtain ⟨q, hq, rfl, HO, HB⟩ := hrel
    by_cases hqn : q < N
    · have hqn' : (q : Int) < (N : Int) := by omega
      obtain ⟨b, off, rfl, hb, hcc⟩ := cas_cells HC3.out (by rw [HM.out]; omega)
      obtain ⟨x, hxk⟩ : ∃ x, ca[q]? = some x := ⟨ca[q]'(by rw [HM.out]; exact hqn), List.getElem?_eq_getElem _⟩
      have h8 := HC3.out.1 x (List.mem_of_getElem? hxk)
      obtain ⟨hi0, hi1⟩ := HCM.out x (List.mem_of_getElem? hxk)
      have HTK := hid (show ca.take (q + 1) = ca.take q ++ [x] from by rw [List.take_add_one, hxk]; rfl)
      have hNm : N ≤ 9223372036854775807 := by
        obtain ⟨_, h5, h6⟩ := arr_cap HC3.out.2.2
        omega
      obtain ⟨at_, s⟩ := x
      dsimp only at h8 hi0 hi1
      obtain ⟨a, rfl⟩ : ∃ a : Nat, at_ = (a : Int) := ⟨at_.toNat, by omega⟩
      obtain ⟨s0, s1, s2, s3, s4, s5, s6, s7, rfl⟩ := list8 h8.1
      have hcell := fun (j : Nat) (u : Value) hu => (HB.out.cell (p := ⟨b, off + q * 9 + j, none⟩) (by rw [← HDD.out]; exact hb)).trans (hcc q _ hxk j u hu)
      have c0 := hcell 0 (.int .i64 (a : Int)) rfl
      rw [Nat.add_zero] at c0
      have c1 := hcell 1 (.int .u8 (s0 : Int)) rfl
      have c2 := hcell 2 (.int .u8 (s1 : Int)) rfl
      have c3 := hcell 3 (.int .u8 (s2 : Int)) rfl
      have c4 := hcell 4 (.int .u8 (s3 : Int)) rfl
      have c5 := hcell 5 (.int .u8 (s4 : Int)) rfl
      have c6 := hcell 6 (.int .u8 (s5 : Int)) rfl
      have c7 := hcell 7 (.int .u8 (s6 : Int)) rfl
      have c8 := hcell 8 (.int .u8 (s7 : Int)) rfl
      obtain ⟨W5, hW5⟩ : ∃ X, wr.alloc (.cells #[.int .i64 (a : Int), .int .u8 (s0 : Int), .int .u8 (s1 : Int), .int .u8 (s2 : Int), .int .u8 (s3 : Int), .int .u8 (s4 : Int), .int .u8 (s5 : Int), .int .u8 (s6 : Int), .int .u8 (s7 : Int)] 112) = X := ⟨_, rfl⟩
      obtain ⟨h, hh⟩ : ∃ h, wr.heap.size = h := ⟨_, rfl⟩
      have hb5 : Below wr.heap.size wr W5 := by rw [← hW5]; exact al1 _ _
      have hwr : D ≤ wr.heap.size := by have := HB.out.size; have := HDD.out; omega
      have hz5 : W5.heap[h]? = some (.cells #[.int .i64 (a : Int), .int .u8 (s0 : Int), .int .u8 (s1 : Int), .int .u8 (s2 : Int), .int .u8 (s3 : Int), .int .u8 (s4 : Int), .int .u8 (s5 : Int), .int .u8 (s6 : Int), .int .u8 (s7 : Int)] 112) := by rw [← hW5, ← hh]; exact heap_alloc_new _ _
      have HB5 : Hid (Below D w3 W5) := hid (HB.out.trans (hb5.mono hwr))
      have HO5 := hid (own_keep HO.out (keep_below hb5))
      have hy5 := (HB5.out.block (g + 1) hgD).trans HY3.out
      have z0 := cell_of_row _ _ 0 _ _ _ hz5
      have z1 := cell_of_row _ _ 1 _ _ _ hz5
      have z2 := cell_of_row _ _ 2 _ _ _ hz5
      have z3 := cell_of_row _ _ 3 _ _ _ hz5
      have z4 := cell_of_row _ _ 4 _ _ _ hz5
      have z5 := cell_of_row _ _ 5 _ _ _ hz5
      have z6 := cell_of_row _ _ 6 _ _ _ hz5
      have z7 := cell_of_row _ _ 7 _ _ _ hz5
      have z8 := cell_of_row _ _ 8 _ _ _ hz5
      have y0 := cell_of_row _ _ 0 _ _ _ hy5
      have y1 := cell_of_row _ _ 1 _ _ _ hy5
      obtain ⟨z, hz⟩ : ∃ z : Int, (a : Int) - (i : Int) = z := ⟨_, rfl⟩
      have e6 : IntKind.i64.wrap ((a : Int) - (i : Int)) = z := by rw [IntKind.wrap_i64]; omega
      have HW5 := hid hW5
      have HH := hid hh
      have H8 := hid h8
      have HA := hid hi1
      clear hcc hxk h8 hcell hW5 hh hb5 hz5 hy5 hi0
      go_upto_region 10 with fail
      rw [HW5.out, HH.out]
      clear c0 c1 c2 c3 c4 c5 c6 c7 c8
      by_cases hlo : i ≤ a
      rotate_left
      · have d0 : decide ((0 : Int) ≤ z) = false := decide_eq_false (by omega)
        have d0' : ¬ (0 ≤ z) := by omega
        have HO6 : Hid (W5.ownsRow D 57 8 (.slice A1 k c1) k ((((newL st (ca.take (q + 1))).drop i).take k).map cSec).flatten) := hid (by
          rw [HTK.out, newL_snoc]
          show W5.ownsRow D 57 8 _ k (((((newL st (ca.take q)).set a [s0, s1, s2, s3, s4, s5, s6, s7]).drop i).take k).map cSec).flatten
          rw [win_out _ _ _ _ _ (by omega)]
          exact HO5.out)
        clear hlo hz
        go_wp2_with fail
        go_roundw
        case rel => exact ⟨q + 1, by omega, by go_num, HO6, HB5⟩
        case measure => simp [Go.RowKit.intOf]; omega
      obtain ⟨j, hj⟩ : ∃ j : Nat, i + j = a := ⟨a - i, by omega⟩
      obtain rfl : z = (j : Int) := by omega
      have d0 : decide ((0 : Int) ≤ (j : Int)) = true := decide_eq_true (by omega)
      by_cases hhi : j < k
      rotate_left
      · have d1 : decide ((j : Int) < (k : Int)) = false := decide_eq_false (by omega)
        have d1' : decide (j < k) = false := decide_eq_false hhi
        have HO6 : Hid (W5.ownsRow D 57 8 (.slice A1 k c1) k ((((newL st (ca.take (q + 1))).drop i).take k).map cSec).flatten) := hid (by
          rw [HTK.out, newL_snoc]
          show W5.ownsRow D 57 8 _ k (((((newL st (ca.take q)).set a [s0, s1, s2, s3, s4, s5, s6, s7]).drop i).take k).map cSec).flatten
          rw [win_out _ _ _ _ _ (by omega)]
          exact HO5.out)
        have d2' : ¬ ((j : Int) < (k : Int)) := by omega
        clear hlo hhi hj hz
        go_wp2_with fail
        go_roundw
        case rel => exact ⟨q + 1, by omega, by go_num, HO6, HB5⟩
        case measure => simp [Go.RowKit.intOf]; omega
      have d1 : decide ((j : Int) < (k : Int)) = true := decide_eq_true (by omega)
      have d1' : decide (j < k) = true := decide_eq_true hhi
      have hjk : (j : Int) < (k : Int) := by omega
      obtain ⟨l, hl⟩ : ∃ l, ((newL st (ca.take q)).drop i).take k = l := ⟨_, rfl⟩
      have hsecs : Secs l := by rw [← hl]; exact win_secs (newL_secs HSL.out (fun y hy => HCL.out y (List.mem_of_mem_take hy))) _ _
      have hll : l.length = k := by rw [← hl, List.length_take, List.length_drop, newL_len, HN.out]; omega
      rw [hl] at HO5
      have hlf := flat_cells hsecs
      rw [hll] at hlf
      obtain ⟨t, ht⟩ : ∃ t, l[j]? = some t := ⟨l[j]'(by omega), List.getElem?_eq_getElem _⟩
      obtain ⟨t0, t1, t2, t3, t4, t5, t6, t7, rfl⟩ := list8 (hsecs t (List.mem_of_getElem? ht)).1
      have hF : ∀ (x : Nat) (u : Value), (cSec [t0, t1, t2, t3, t4, t5, t6, t7])[x]? = some u → ((l.map cSec).flatten)[j * 8 + x]? = some u := fun x u hu => by
        have hx : x < 8 := (List.getElem?_eq_some_iff.1 hu).1
        rw [flat_getG (st := 8) (fun r hr => secs_rows hsecs r hr) (i := j) (j := x) (r := cSec [t0, t1, t2, t3, t4, t5, t6, t7]) (by rw [List.getElem?_map, ht]; rfl) hx]
        exact hu
      obtain ⟨ob, rfl⟩ : ∃ ob, A1 = some ⟨ob, 0, none⟩ := by
        rcases HO5.out.2 with ⟨e, _⟩ | ⟨ob, cap, cur, e, _⟩
        · injection e with _ e _
          omega
        · injection e with e _ _
          exact ⟨ob, e⟩
      have hob : D ≤ ob := (own_at HO5.out).1
      have q0 := own_cell HO5.out (j * 8) _ (by have h := hF 0 _ rfl; rw [Nat.add_zero] at h; exact h)
      have q1 := own_cell HO5.out (j * 8 + 1) _ (hF 1 _ rfl)
      have q2 := own_cell HO5.out (j * 8 + 2) _ (hF 2 _ rfl)
      have q3 := own_cell HO5.out (j * 8 + 3) _ (hF 3 _ rfl)
      have q4 := own_cell HO5.out (j * 8 + 4) _ (hF 4 _ rfl)
      have q5 := own_cell HO5.out (j * 8 + 5) _ (hF 5 _ rfl)
      have q6 := own_cell HO5.out (j * 8 + 6) _ (hF 6 _ rfl)
      have q7 := own_cell HO5.out (j * 8 + 7) _ (hF 7 _ rfl)
      have fq0 := own_fr HO5.out (j * 8)
      have fq1 := own_fr HO5.out (j * 8 + 1)
      have fq2 := own_fr HO5.out (j * 8 + 2)
      have fq3 := own_fr HO5.out (j * 8 + 3)
      have fq4 := own_fr HO5.out (j * 8 + 4)
      have fq5 := own_fr HO5.out (j * 8 + 5)
      have fq6 := own_fr HO5.out (j * 8 + 6)
      have fq7 := own_fr HO5.out (j * 8 + 7)
      obtain ⟨W6, hW6⟩ : ∃ X, ((((((((W5.setCell ⟨ob, j * 8, none⟩ (.int .u8 (s0 : Int))).setCell ⟨ob, j * 8 + 1, none⟩ (.int .u8 (s1 : Int))).setCell ⟨ob, j * 8 + 2, none⟩ (.int .u8 (s2 : Int))).setCell ⟨ob, j * 8 + 3, none⟩ (.int .u8 (s3 : Int))).setCell ⟨ob, j * 8 + 4, none⟩ (.int .u8 (s4 : Int))).setCell ⟨ob, j * 8 + 5, none⟩ (.int .u8 (s5 : Int))).setCell ⟨ob, j * 8 + 6, none⟩ (.int .u8 (s6 : Int))).setCell ⟨ob, j * 8 + 7, none⟩ (.int .u8 (s7 : Int))) = X := ⟨_, rfl⟩
      have HO6 : Hid (W6.ownsRow D 57 8 (.slice (some ⟨ob, 0, none⟩) k c1) k ((((newL st (ca.take (q + 1))).drop i).take k).map cSec).flatten) := hid (by
        have h := (own_put (own_put (own_put (own_put (own_put (own_put (own_put (own_put HO5.out (j * 8) (.int .u8 (s0 : Int))) (j * 8 + 1) (.int .u8 (s1 : Int))) (j * 8 + 2) (.int .u8 (s2 : Int))) (j * 8 + 3) (.int .u8 (s3 : Int))) (j * 8 + 4) (.int .u8 (s4 : Int))) (j * 8 + 5) (.int .u8 (s5 : Int))) (j * 8 + 6) (.int .u8 (s6 : Int))) (j * 8 + 7) (.int .u8 (s7 : Int)))
        rw [set8 _ _ (by rw [hlf]; omega)] at h
        rw [HTK.out, newL_snoc]
        show W6.ownsRow D 57 8 _ k (((((newL st (ca.take q)).set a [s0, s1, s2, s3, s4, s5, s6, s7]).drop i).take k).map cSec).flatten
        rw [win_set _ _ _ _ _ (by omega), hl, show a - i = j by omega, ← spl_one _ _ _ (by omega), flat_spl hsecs (fun y hy => by rw [List.mem_singleton] at hy; subst hy; exact ⟨H8.out.1, H8.out.2.1⟩) (by rw [hll]; exact hhi), ← hW6]
        exact h)
      have HB6 : Hid (Below D w3 W6) := hid (by rw [← hW6]; exact ((((((((HB5.out.setCell hob _).setCell hob _).setCell hob _).setCell hob _).setCell hob _).setCell hob _).setCell hob _).setCell hob _))
      have HW6 := hid hW6
      clear hlo hj hl hsecs hll hlf ht hF hob hW6 hz
      go_upto_region 13 with fail
      rw [HW6.out]
      go_wp2_with fail
      go_roundw
      case rel => exact ⟨q + 1, by omega, by go_num, HO6, HB6⟩
      case measure => simp [Go.RowKit.intOf]; omega
    · obtain rfl : N = q := by omega
      have hqn' : ¬ ((N : Nat) : Int) < (N : Int) := by omega
      go_wp2_with fail
      go_ret2
      refine ⟨HB3.out.trans (HB.out.mono hwD), .inr ⟨HQ.out, _, rfl, ?_⟩⟩
      have h := HO.out
      rw [show ca.take N = ca from List.take_of_length_le (by rw [HM.out]; exact Nat.le_refl _)] at h
      have hln : (((newL st ca).drop i).take k).length = k := by rw [List.length_take, List.length_drop, newL_len, HN.out]; omega
      have h' : Sec wr (.slice A1 k c1) (((newL st ca).drop i).take k) := sec_of_own (by rw [hln]; exact h) (win_secs (newL_secs HSL.out HCL.out) _ _)
      simpa using h'
end Go.Proofs.Ytnocgfhcamnjdaa
