/- Send of the reference. -/
import Derived.Test.YtacpejoablcffaaEh
namespace Go.Proofs.Ytacpejoablcffaa
open Go.RowKit Go.Lib

theorem dls_mem2 {mn m : Int} (h : 0 < m) : ∀ (n : Nat) (l : List Int), ∀ d ∈ dls mn m n l, mn ≤ d ∧ d < mn + m := by
  intro n
  induction n with
  | zero => intro l d hd; cases hd
  | succ n ih =>
    intro l d hd
    unfold dls at hd
    rcases List.mem_cons.1 hd with rfl | hd
    · have h5 := dec_lo l h
      have h6 := dec_hi l h
      omega
    · exact ih _ d hd
theorem dls_bd {mn mx E : Int} (h1 : 0 ≤ mn) (h2 : mn ≤ mx) (_ : 0 ≤ E) (_ : E + mx ≤ 1073741824) (i : Nat) (l : List Int) : ∀ d ∈ dls mn (mx - mn + 1) i l, 0 ≤ d ∧ E + d ≤ 1073741824 := fun d hd => by
  obtain ⟨h5, h6⟩ := dls_mem2 (show 0 < mx - mn + 1 by omega) i l d hd
  omega
/-- What the reference's Send gives. -/
def RSendQ (w : World) (r : Except Int (Lk × List Fc × List Int)) (e : Ending) (w' : World) : Prop :=
  Below w.heap.size w w' ∧ ((∃ er, r = .error er ∧ er ≠ 0 ∧ e = .returned (.tuple #[zLk, .slice none 0 0, .int .i64 er])) ∨ (∃ (s : Lk) (l : List Fc) (ch : List Int) (fv cv : Value) (vs : List Fl), r = .ok (s, l, ch) ∧ e = .returned (.tuple #[vLk s fv, cv, .int .i64 0]) ∧ FL w' fv vs ∧ vs.map core = l ∧ Ints w' cv ch))
set_option maxHeartbeats 16000000 in
set_option maxRecDepth 100000 in
theorem refSend_any (s : Lk) (l : List Fl) (v : Value) (now : Int) (p : List Nat) (pv : Value) (ch : List Int) (cv : Value) (w : World) (hv : FL w v l) (hl : l.length ≤ 100000) (hpl : ∀ x ∈ l, x.p.length ≤ 100000) (hp : Byt w pv p) (hpn : NilOk pv) (hc : Ints w cv ch) (hcl : ch.length ≤ 1000000) :
    Calls Try.prog 19 #[vLk s v, .int .i64 now, pv, cv] w (RSendQ w (sendS s (l.map core) now p ch)) := by
  obtain ⟨A, c, rfl⟩ := fl_form hv
  obtain ⟨pA, pc, rfl⟩ := byt_form hp
  obtain ⟨cA, cc, rfl⟩ := ints_form hc
  obtain ⟨N, hN⟩ : ∃ N, l.length = N := ⟨_, rfl⟩
  obtain ⟨M, hM⟩ : ∃ M, p.length = M := ⟨_, rfl⟩
  obtain ⟨C, hC⟩ : ∃ C, ch.length = C := ⟨_, rfl⟩
  rw [hN] at hv ⊢
  rw [hM] at hp hpn ⊢
  rw [hC] at hc hcl ⊢
  obtain ⟨mn, mx, rt, dn, idle, next⟩ := s
  unfold vLk
  dsimp only
  obtain ⟨g, hg⟩ : ∃ g, w.heap.size = g := ⟨_, rfl⟩
  obtain ⟨W1, hW1⟩ : ∃ X, (w.alloc (.cells #[.int .i64 mn, .int .i64 mx, .int .i64 rt, .bool dn, .int .i64 idle, .int .i64 next, .slice A N c] 26)).alloc (.cells #[.int .i64 0, .int .i64 0, .int .i64 0, .bool false, .int .i64 0, .int .i64 0, .slice none 0 0] 26) = X := ⟨_, rfl⟩
  have hb1 : Below w.heap.size w W1 := by rw [← hW1]; exact ((Below.refl _ w).alloc (Nat.le_refl _) _).alloc (by simp) _
  have hx1 : W1.heap[g]? = some (.cells #[.int .i64 mn, .int .i64 mx, .int .i64 rt, .bool dn, .int .i64 idle, .int .i64 next, .slice A N c] 26) := by rw [← hW1, ← hg]; exact (Below.heap_alloc _ _ _ (by simp)).trans (heap_alloc_new w _)
  have hy1 : W1.heap[g + 1]? = some (.cells #[.int .i64 0, .int .i64 0, .int .i64 0, .bool false, .int .i64 0, .int .i64 0, .slice none 0 0] 26) := by rw [← hW1, ← hg]; simpa using heap_alloc_new (w.alloc (.cells #[.int .i64 mn, .int .i64 mx, .int .i64 rt, .bool dn, .int .i64 idle, .int .i64 next, .slice A N c] 26)) (.cells #[.int .i64 0, .int .i64 0, .int .i64 0, .bool false, .int .i64 0, .int .i64 0, .slice none 0 0] 26)
  have HCK := hid (refCheck_any ⟨mn, mx, rt, dn, idle, next⟩ l _ W1 (hv.below hb1))
  obtain ⟨ck, hck⟩ : ∃ ck, chk ⟨mn, mx, rt, dn, idle, next⟩ (l.map core) = ck := ⟨_, rfl⟩
  rw [hck] at HCK
  unfold vLk at HCK
  dsimp only at HCK
  have HCP := hid (fun X (hX : Below w.heap.size w X) => refCopy_any ⟨mn, mx, rt, dn, idle, next⟩ l _ X (hv.below hX) hl hpl)
  unfold vLk at HCP
  dsimp only at HCP
  obtain ⟨R, hR⟩ : ∃ R, sendS ⟨mn, mx, rt, dn, idle, next⟩ (l.map core) now p ch = R := ⟨_, rfl⟩
  rw [hR]
  have HR1 : Hid (R = if ck ≠ 0 then .error ck else if timeB now = false then .error 24 else if 65536 < M then .error 5 else if dn = true then .ok (⟨mn, mx, rt, dn, idle, next⟩, l.map core, ch) else
    if 1073741824 < max now idle + tik M rt + mx then .error 24 else if 4094 < N ∨ 1073741822 < next then .error 11 else
    .ok (⟨mn, mx, rt, dn, max now idle + tik M rt, next + (arr ch : Int)⟩, lau (max now idle + tik M rt) p (dls mn (mx - mn + 1) (arr ch) ch.tail) next (l.map core), ch.drop (arr ch + 1))) := hid (by
      rw [← hR]; unfold sendS; rw [hck, hM, List.length_map, hN])
  have HV := hid hv
  have HP := hid hp
  have HPN := hid hpn
  have HC := hid hc
  have HN := hid hN
  have HM := hid hM
  have HCC := hid hC
  have HCL := hid hcl
  have HB1 := hid hb1
  have HX1 := hid hx1
  have HY1 := hid hy1
  have HW1 := hid hW1
  have HG := hid hg
  have HCE := hid hck
  have hge : w.heap.size ≤ g := Nat.le_of_eq hg
  have x0 := cell_of_row _ _ 0 _ _ _ HX1.out
  have x1 := cell_of_row _ _ 1 _ _ _ HX1.out
  have x2 := cell_of_row _ _ 2 _ _ _ HX1.out
  have x3 := cell_of_row _ _ 3 _ _ _ HX1.out
  have x4 := cell_of_row _ _ 4 _ _ _ HX1.out
  have x5 := cell_of_row _ _ 5 _ _ _ HX1.out
  have x6 := cell_of_row _ _ 6 _ _ _ HX1.out
  clear hv hp hpn hc hN hM hC hb1 hx1 hy1 hW1 hg hck hR hl hpl hcl
  go_enter Try.func19, Try.ntmps19
  go_upto_region 1 with fail
  rw [HW1.out, HG.out]
  go_wp2_with fail
  refine HCK.out.mono ?_
  rintro e w2 ⟨rfl, hb2⟩
  have HX2 := hid ((hb2.block _ (box_lt HX1.out)).trans HX1.out)
  have HY2 := hid ((hb2.block _ (box_lt HY1.out)).trans HY1.out)
  have HB2 := hid (HB1.out.trans (hb2.mono HB1.out.size))
  clear hb2 HCK x0 x1 x2 x3 x4 x5 x6
  have x0 := cell_of_row _ _ 0 _ _ _ HX2.out
  have x1 := cell_of_row _ _ 1 _ _ _ HX2.out
  have x2 := cell_of_row _ _ 2 _ _ _ HX2.out
  have x3 := cell_of_row _ _ 3 _ _ _ HX2.out
  have x4 := cell_of_row _ _ 4 _ _ _ HX2.out
  have x5 := cell_of_row _ _ 5 _ _ _ HX2.out
  have x6 := cell_of_row _ _ 6 _ _ _ HX2.out
  have y0 := cell_of_row _ _ 0 _ _ _ HY2.out
  have y1 := cell_of_row _ _ 1 _ _ _ HY2.out
  have y2 := cell_of_row _ _ 2 _ _ _ HY2.out
  have y3 := cell_of_row _ _ 3 _ _ _ HY2.out
  have y4 := cell_of_row _ _ 4 _ _ _ HY2.out
  have y5 := cell_of_row _ _ 5 _ _ _ HY2.out
  have y6 := cell_of_row _ _ 6 _ _ _ HY2.out
  have fy0 := box_fr HY2.out 0
  have fy1 := box_fr HY2.out 1
  have fy2 := box_fr HY2.out 2
  have fy3 := box_fr HY2.out 3
  have fy4 := box_fr HY2.out 4
  have fy5 := box_fr HY2.out 5
  have fy6 := box_fr HY2.out 6
  by_cases hc0 : ck = 0
  rotate_left
  · have d1 : (ck != 0) = true := by rw [bne_iff_ne]; exact hc0
    have HR := hid (HR1.out.trans (if_pos hc0))
    have HC0 := hid hc0
    clear hc0
    go_wp2_with fail
    refine bodyPost_ret (results_v2 rfl _ _ (g + 1) _ rfl (lv26 (set7h _ _ _ _ _ _ _ HY2.out)) _ rfl _ rfl) rfl ?_
    exact ⟨set7b _ _ _ _ _ _ _ HB2.out (by omega), .inl ⟨ck, HR.out, HC0.out, rfl⟩⟩
  subst hc0
  have HR2 := hid (HR1.out.trans (if_neg (by simp)))
  have HOK := hid ((chk_iff ⟨mn, mx, rt, dn, idle, next⟩ (l.map core)).1 HCE.out)
  obtain ⟨hc1, hc2, hc3, hc4, hc5⟩ := HOK.out.cfg
  obtain ⟨hi0, hi1⟩ := HOK.out.idle
  obtain ⟨hn0, hn1⟩ := HOK.out.next
  have hlN : N ≤ 4096 := by have h := HOK.out.len; rw [List.length_map, HN.out] at h; exact h
  dsimp only at hc1 hc2 hc3 hc4 hc5 hi0 hi1 hn0 hn1
  by_cases ht0 : now < 0
  · have d2 : decide (now < 0) = true := decide_eq_true ht0
    have HR := hid (HR2.out.trans (if_pos (show timeB now = false from decide_eq_false (by omega))))
    clear ht0
    go_wp2_with fail
    refine bodyPost_ret (results_v2 rfl _ _ (g + 1) _ rfl (lv26 (set7h _ _ _ _ _ _ _ HY2.out)) _ rfl _ rfl) rfl ?_
    exact ⟨set7b _ _ _ _ _ _ _ HB2.out (by omega), .inl ⟨24, HR.out, by decide, rfl⟩⟩
  have d2 : decide (now < 0) = false := decide_eq_false ht0
  by_cases ht1 : 1073741824 < now
  · have d3 : decide ((1073741824 : Int) < now) = true := decide_eq_true ht1
    have HR := hid (HR2.out.trans (if_pos (show timeB now = false from decide_eq_false (by omega))))
    clear ht1
    go_wp2_with fail
    refine bodyPost_ret (results_v2 rfl _ _ (g + 1) _ rfl (lv26 (set7h _ _ _ _ _ _ _ HY2.out)) _ rfl _ rfl) rfl ?_
    exact ⟨set7b _ _ _ _ _ _ _ HB2.out (by omega), .inl ⟨24, HR.out, by decide, rfl⟩⟩
  have d3 : decide ((1073741824 : Int) < now) = false := decide_eq_false ht1
  have HR3 := hid (HR2.out.trans (if_neg (by rw [show timeB now = true from decide_eq_true (by omega)]; simp)))
  by_cases hm : 65536 < M
  · have dm : decide ((65536 : Int) < (M : Int)) = true := decide_eq_true (by omega)
    have HR := hid (HR3.out.trans (if_pos hm))
    clear hm
    go_wp2_with fail
    refine bodyPost_ret (results_v2 rfl _ _ (g + 1) _ rfl (lv26 (set7h _ _ _ _ _ _ _ HY2.out)) _ rfl _ rfl) rfl ?_
    exact ⟨set7b _ _ _ _ _ _ _ HB2.out (by omega), .inl ⟨5, HR.out, by decide, rfl⟩⟩
  have dm : decide ((65536 : Int) < (M : Int)) = false := decide_eq_false (by omega)
  have HR4 := hid (HR3.out.trans (if_neg hm))
  cases dn
  rotate_left
  · have HR := hid (HR4.out.trans (if_pos rfl))
    have HCP2 := hid (HCP.out w2 HB2.out)
    clear ht0 ht1 hm
    go_wp2_with fail
    refine HCP2.out.mono ?_
    rintro e w3 ⟨v3, rfl, ⟨fv3, vs3, rfl, ho3, hc3, hp3⟩, hb3⟩
    obtain ⟨f3, c3, rfl⟩ := own_form69 ho3
    obtain ⟨q3, hq3⟩ : ∃ q, vs3.length = q := ⟨_, rfl⟩
    rw [hq3] at ho3
    unfold vLk
    dsimp only
    rw [hq3]
    have hy3 := (hb3.block _ (box_lt HY2.out)).trans HY2.out
    have HY3 := hid hy3
    have HF3 := hid (fl_of_own ho3 hq3 hp3)
    have HO3 := hid ho3
    have HQ3 := hid hq3
    have HP3 := hid hp3
    have HC3 := hid hc3
    have HB3 := hid (HB2.out.trans (hb3.mono HB2.out.size))
    clear hb3 hy3 ho3 hq3 hp3 hc3 x0 x1 x2 x3 x4 x5 x6 y0 y1 y2 y3 y4 y5 y6 fy0 fy1 fy2 fy3 fy4 fy5 fy6
    have y0 := cell_of_row _ _ 0 _ _ _ HY3.out
    have y1 := cell_of_row _ _ 1 _ _ _ HY3.out
    have y2 := cell_of_row _ _ 2 _ _ _ HY3.out
    have y3 := cell_of_row _ _ 3 _ _ _ HY3.out
    have y4 := cell_of_row _ _ 4 _ _ _ HY3.out
    have y5 := cell_of_row _ _ 5 _ _ _ HY3.out
    have y6 := cell_of_row _ _ 6 _ _ _ HY3.out
    have fy0 := box_fr HY3.out 0
    have fy1 := box_fr HY3.out 1
    have fy2 := box_fr HY3.out 2
    have fy3 := box_fr HY3.out 3
    have fy4 := box_fr HY3.out 4
    have fy5 := box_fr HY3.out 5
    have fy6 := box_fr HY3.out 6
    go_wp2_with fail
    refine bodyPost_ret (results_v2 rfl _ _ (g + 1) _ rfl (lv26 (set7h _ _ _ _ _ _ _ HY3.out)) _ rfl _ rfl) rfl ?_
    have hkp := fun T (hT : T ≠ 26) => set7k HY3.out hT (.int .i64 mn) (.int .i64 mx) (.int .i64 rt) (.bool true) (.int .i64 idle) (.int .i64 next) (.slice f3 q3 c3)
    have hbF := set7b (.int .i64 mn) (.int .i64 mx) (.int .i64 rt) (.bool true) (.int .i64 idle) (.int .i64 next) (.slice f3 q3 c3) HB3.out (show w.heap.size ≤ g + 1 by omega)
    exact ⟨hbF, .inr ⟨_, _, _, _, _, vs3, HR.out, rfl, fl_of_own (own_keep HO3.out (hkp 69 (by decide))) HQ3.out (fun x hx => (HP3.out x hx).keep (hkp 5 (by decide))), HC3.out, HC.out.below hbF⟩⟩
  have HR5 := hid (HR4.out.trans (if_neg (by simp)))
  obtain ⟨T, hT⟩ : ∃ T, tik M rt = T := ⟨_, rfl⟩
  have hT0 : 0 ≤ T := by rw [← hT]; exact tik_lo hc4
  have hT1 : T ≤ 65536 := by rw [← hT]; exact tik_hi (by omega) hc4
  obtain ⟨mm, hmm⟩ : ∃ m, max now idle = m := ⟨_, rfl⟩
  have hm0 : 0 ≤ mm ∧ mm ≤ 1073741824 := by omega
  rw [hT, hmm] at HR5
  have HT := hid hT
  have HMM := hid hmm
  have emm : (if idle ≤ now then now else idle) = mm := by rw [← hmm]; omega
  clear hmm hT
  go_upto_if 45 with fail
  go_cut [12] (fun s12 wx => s12 = .int .i64 T ∧ wx = w2)
  case first =>
    by_cases hr0 : rt = 0
    · have dr : decide (0 < rt) = false := decide_eq_false (by omega)
      have hnr : ¬ (0 < rt) := by omega
      obtain rfl : 0 = T := by rw [← HT.out]; unfold tik; rw [if_pos hr0]
      clear hr0
      go_wp2_with fail
      go_meet
      exact ⟨rfl, rfl⟩
    · have hrp : 0 < rt := by omega
      have dr : decide (0 < rt) = true := decide_eq_true hrp
      have dr0 : (rt == 0) = false := by rw [beq_eq_false_iff_ne]; exact hr0
      have hq : ((M : Int) + rt - 1) / rt = T := by rw [← HT.out]; unfold tik; rw [if_neg hr0]
      have e1 : IntKind.i64.wrap ((M : Int) + rt) = (M : Int) + rt := by rw [IntKind.wrap_i64]; omega
      have e2 : IntKind.i64.wrap ((M : Int) + rt - 1) = (M : Int) + rt - 1 := by rw [IntKind.wrap_i64]; omega
      clear hr0
      go_wp2_with fail
      go_meet
      exact ⟨congrArg (Value.int IntKind.i64) hq, rfl⟩
  case rest =>
    obtain ⟨rfl, hwc⟩ := hcut
    have hwc' := hwc.symm
    subst hwc'
    clear hwc
    have hmm := HMM.out
    obtain ⟨E, hE⟩ : ∃ E, mm + T = E := ⟨_, rfl⟩
    have hE0 : 0 ≤ E ∧ E ≤ 1073807360 := by omega
    have hEw : IntKind.i64.wrap (mm + T) = E := by rw [IntKind.wrap_i64]; omega
    have eE : IntKind.i64.wrap (E + mx) = E + mx := by rw [IntKind.wrap_i64]; omega
    rw [hE] at HR5
    go_upto_region 14 with fail
    clear hmm hE hEw emm
    by_cases he : 1073741824 < E + mx
    · have de : decide ((1073741824 : Int) < E + mx) = true := decide_eq_true he
      have HR := hid (HR5.out.trans (if_pos he))
      clear he
      go_wp2_with fail
      refine bodyPost_ret (results_v2 rfl _ _ (g + 1) _ rfl (lv26 (set7h _ _ _ _ _ _ _ HY2.out)) _ rfl _ rfl) rfl ?_
      exact ⟨set7b _ _ _ _ _ _ _ HB2.out (by omega), .inl ⟨24, HR.out, by decide, rfl⟩⟩
    have de : decide ((1073741824 : Int) < E + mx) = false := decide_eq_false he
    have HR6 := hid (HR5.out.trans (if_neg he))
    by_cases hN4 : 4094 < N
    · have dN : decide ((4094 : Int) < (N : Int)) = true := decide_eq_true (by omega)
      have HR := hid (HR6.out.trans (if_pos (.inl hN4)))
      clear he hN4
      go_wp2_with fail
      refine bodyPost_ret (results_v2 rfl _ _ (g + 1) _ rfl (lv26 (set7h _ _ _ _ _ _ _ HY2.out)) _ rfl _ rfl) rfl ?_
      exact ⟨set7b _ _ _ _ _ _ _ HB2.out (by omega), .inl ⟨11, HR.out, by decide, rfl⟩⟩
    have dN : decide ((4094 : Int) < (N : Int)) = false := decide_eq_false (by omega)
    by_cases hx4 : 1073741822 < next
    · have dX : decide ((1073741822 : Int) < next) = true := decide_eq_true hx4
      have HR := hid (HR6.out.trans (if_pos (.inr hx4)))
      clear he hN4 hx4
      go_wp2_with fail
      refine bodyPost_ret (results_v2 rfl _ _ (g + 1) _ rfl (lv26 (set7h _ _ _ _ _ _ _ HY2.out)) _ rfl _ rfl) rfl ?_
      exact ⟨set7b _ _ _ _ _ _ _ HB2.out (by omega), .inl ⟨11, HR.out, by decide, rfl⟩⟩
    have dX : decide ((1073741822 : Int) < next) = false := decide_eq_false hx4
    have HR7 := hid (HR6.out.trans (if_neg (by omega)))
    have HBD := hid (show 0 ≤ E ∧ E + mx ≤ 1073741824 ∧ N ≤ 4094 ∧ next ≤ 1073741822 by omega)
    have HCP2 := hid (HCP.out w2 HB2.out)
    clear he hN4 hx4 y0 y1 y2 y3 y4 y5 y6 fy0 fy1 fy2 fy3 fy4 fy5 fy6 eE
    go_upto_region 18 with fail
    go_wp2_with fail
    refine HCP2.out.mono ?_
    rintro e w3 ⟨v3, rfl, ⟨fv3, vs3, rfl, ho3, hc3, hp3⟩, hb3⟩
    obtain ⟨f3, c3, rfl⟩ := own_form69 ho3
    obtain ⟨q3, hq3⟩ : ∃ q, vs3.length = q := ⟨_, rfl⟩
    rw [hq3] at ho3
    unfold vLk
    dsimp only
    rw [hq3]
    obtain ⟨o, ho⟩ : ∃ o, w3.heap.size = o := ⟨_, rfl⟩
    obtain ⟨W3, hW3⟩ : ∃ X, w3.alloc (.cells #[.int .i64 mn, .int .i64 mx, .int .i64 rt, .bool false, .int .i64 idle, .int .i64 next, .slice f3 q3 c3] 26) = X := ⟨_, rfl⟩
    have hz3 : Below w3.heap.size w3 W3 := by rw [← hW3]; exact al1 _ _
    have hb3' := hb3.trans (hz3.mono hb3.size)
    have hO3 : W3.heap[o]? = some (.cells #[.int .i64 mn, .int .i64 mx, .int .i64 rt, .bool false, .int .i64 idle, .int .i64 next, .slice f3 q3 c3] 26) := by rw [← hW3, ← ho]; exact heap_alloc_new _ _
    have hx3 := (hb3'.block _ (box_lt HX2.out)).trans HX2.out
    have hy3 := (hb3'.block _ (box_lt HY2.out)).trans HY2.out
    have hB3 := HB2.out.trans (hb3'.mono HB2.out.size)
    have hgo : g + 1 < o := by rw [← ho]; exact Nat.lt_of_lt_of_le (box_lt HY2.out) hb3.size
    obtain ⟨W4, hW4⟩ : ∃ X, W3.setCell ⟨o, 4, none⟩ (.int .i64 E) = X := ⟨_, rfl⟩
    have HO4 : Hid (W4.heap[o]? = some (.cells #[.int .i64 mn, .int .i64 mx, .int .i64 rt, .bool false, .int .i64 E, .int .i64 next, .slice f3 q3 c3] 26)) := hid (by
      rw [← hW4]
      exact box_set (cs := [.int .i64 mn, .int .i64 mx, .int .i64 rt, .bool false, .int .i64 idle, .int .i64 next, .slice f3 q3 c3]) hO3 4 _)
    have HX4 : Hid (W4.heap[g]? = some (.cells #[.int .i64 mn, .int .i64 mx, .int .i64 rt, .bool false, .int .i64 idle, .int .i64 next, .slice A N c] 26)) := hid (by rw [← hW4]; exact (Below.heap_setCell _ _ _ _ (show g ≠ o by omega)).trans hx3)
    have HY4 : Hid (W4.heap[g + 1]? = some (.cells #[.int .i64 0, .int .i64 0, .int .i64 0, .bool false, .int .i64 0, .int .i64 0, .slice none 0 0] 26)) := hid (by rw [← hW4]; exact (Below.heap_setCell _ _ _ _ (show g + 1 ≠ o by omega)).trans hy3)
    have HB4 : Hid (Below w.heap.size w W4) := hid (by rw [← hW4]; exact hB3.setCell (show w.heap.size ≤ o by omega) _)
    have HF4 : Hid (W4.ownsRow 0 69 3 (.slice f3 q3 c3) vs3.length (vs3.map cFl).flatten) := hid (by rw [← hW4, hq3]; exact own_keep (own_keep (own_base ho3 (Nat.zero_le _)) (keep_below hz3)) (keep_box hO3 (by decide) _ _))
    have HP4 : Hid (∀ x ∈ vs3, Pay W4 x) := hid (fun x hx => by rw [← hW4]; exact ((hp3 x hx).keep (keep_below hz3)).keep (keep_box hO3 (by decide) _ _))
    have HC4 := hid hc3
    have ho4 := box_lt HO4.out
    have HW3 := hid hW3
    have HOO := hid ho
    have HW4 := hid hW4
    have z4 := cell_of_row _ _ 4 _ _ _ hO3
    have fz4 := box_fr hO3 4
    have HQ3 := hid hq3
    clear ho hW3 hz3 hb3 hb3' hO3 hx3 hy3 hB3 hW4 ho3 hc3 hp3 hq3 HCP2 x0 x1 x2 x3 x4 x5 x6
    go_upto_region 19 with fail
    rw [HW3.out, HOO.out]
    go_upto_region 20 with fail
    rw [HW4.out]
    clear z4 fz4
    have HDC := hid (rdecide_any ch (.slice cA C cc) 3 W4 (HC.out.below HB4.out) (by rw [HCC.out]; exact HCL.out) (by decide) (by decide))
    go_wp2_with fail
    refine HDC.out.mono ?_
    rintro e w5 ⟨rv, rfl, hr5, hb5⟩
    obtain ⟨rA, rc, rfl⟩ := own_formE hr5
    obtain ⟨d0, hd0⟩ : ∃ d, dec ch 3 = d := ⟨_, rfl⟩
    have hd1 : 0 ≤ d0 := by rw [← hd0]; exact dec_lo _ (by decide)
    have hd3 : d0 < 3 := by rw [← hd0]; exact dec_hi _ (by decide)
    obtain ⟨K, hK⟩ : ∃ K, arr ch = K := ⟨_, rfl⟩
    have hdK : (d0 = 0 ∧ K = 1) ∨ (d0 = 1 ∧ K = 0) ∨ (d0 = 2 ∧ K = 2) := by
      rw [← hK]
      unfold arr
      rw [hd0]
      split
      · omega
      · split <;> omega
    have HKK := hid hK
    rw [hK] at HR7
    rw [hd0]
    have HO5 := hid ((hb5.block _ (box_lt HO4.out)).trans HO4.out)
    have HX5 := hid ((hb5.block _ (box_lt HX4.out)).trans HX4.out)
    have HY5 := hid ((hb5.block _ (box_lt HY4.out)).trans HY4.out)
    have HB5 := hid (HB4.out.trans (hb5.mono HB4.out.size))
    have HF5 := hid (own_keep HF4.out (keep_below hb5))
    have HP5 := hid (fun x hx => (HP4.out x hx).keep (keep_below hb5))
    obtain ⟨L1, hL1⟩ : ∃ L1, ch.tail.length = L1 := ⟨_, rfl⟩
    have HR5' : Hid (w5.ownsRow 0 3 1 (.slice rA L1 rc) (ch.drop (0 + 1)).length ((ch.drop (0 + 1)).map intV)) := hid (by rw [Nat.zero_add, List.drop_one, ← hL1]; exact own_base hr5 (Nat.zero_le _))
    rw [hL1]
    clear hL1
    clear hd0 hK hr5 hb5 HDC
    go_upto_if 90 with fail
    obtain ⟨y1, hy1⟩ : ∃ y : Int, (if d0 = 1 then (0 : Int) else 1) = y := ⟨_, rfl⟩
    have HYV := hid hy1
    clear hy1
    go_cut [17] (fun s17 wx => s17 = .int .i64 y1 ∧ wx = w5)
    case first =>
      by_cases h1 : d0 = 1
      · have dd : (d0 == 1) = true := by rw [beq_iff_eq]; exact h1
        obtain rfl : 0 = y1 := by rw [← HYV.out, if_pos h1]
        clear h1 hdK HYV
        go_wp2_with fail
        go_meet
        exact ⟨rfl, rfl⟩
      · have dd : (d0 == 1) = false := by rw [beq_eq_false_iff_ne]; exact h1
        obtain rfl : 1 = y1 := by rw [← HYV.out, if_neg h1]
        clear h1 hdK HYV
        go_wp2_with fail
        go_meet
        exact ⟨rfl, rfl⟩
    case rest =>
      obtain ⟨rfl, hwc⟩ := hcut
      have hwc' := hwc.symm
      subst hwc'
      clear hwc
      go_upto_if 92 with fail
      go_cut [17] (fun s17 wx => s17 = .int .i64 (K : Int) ∧ wx = w5)
      case first =>
        by_cases h1 : d0 = 2
        · have dd : (d0 == 2) = true := by rw [beq_iff_eq]; exact h1
          obtain rfl : K = 2 := by omega
          clear h1 hdK HYV
          go_wp2_with fail
          go_meet
          exact ⟨rfl, rfl⟩
        · have dd : (d0 == 2) = false := by rw [beq_eq_false_iff_ne]; exact h1
          obtain rfl : y1 = (K : Int) := by rw [← HYV.out]; split <;> omega
          clear h1 hdK HYV
          go_wp2_with fail
          go_meet
          exact ⟨rfl, rfl⟩
      case rest =>
        obtain ⟨rfl, hwc⟩ := hcut
        have hwc' := hwc.symm
        subst hwc'
        have hK2 : K ≤ 2 := by omega
        clear hwc hdK hd1 hd3 HYV
        go_upto_region 27 with fail
        go_loopw [16, 18] (fun rv iv wr => ∃ (i : Nat) (fv : Value) (vs : List Fl), i ≤ K ∧ iv = .int .i64 (i : Int) ∧ Hid (wr.ownsRow 0 3 1 rv (ch.drop (i + 1)).length ((ch.drop (i + 1)).map intV)) ∧ Hid (wr.heap[o]? = some (.cells #[.int .i64 mn, .int .i64 mx, .int .i64 rt, .bool false, .int .i64 E, .int .i64 (next + (i : Int)), fv] 26)) ∧ Hid (wr.ownsRow 0 69 3 fv vs.length (vs.map cFl).flatten) ∧ Hid (∀ x ∈ vs, Pay wr x) ∧ Hid (vs.map core = lau E p (dls mn (mx - mn + 1) i ch.tail) next (l.map core)) ∧ Hid (Below o w5 wr)) (fun _ i _ => K - (Lib.intOf i).toNat)
        case atStart => exact ⟨0, _, vs3, Nat.zero_le _, rfl, HR5', hid (by rw [show next + ((0 : Nat) : Int) = next by omega]; exact HO5.out), HF5, HP5, HC4, hid (Below.refl _ _)⟩
        case round =>
          obtain ⟨i, fv, vs, hi, rfl, HRW, HOB, HVO, HPP, HCR, HB⟩ := hrel
          obtain ⟨rA, rc, rfl⟩ := own_formE HRW.out
          obtain ⟨fA, fc, rfl⟩ := own_form69 HVO.out
          obtain ⟨r1, hr1⟩ : ∃ r, (ch.drop (i + 1)).length = r := ⟨_, rfl⟩
          obtain ⟨Q, hQ⟩ : ∃ q, vs.length = q := ⟨_, rfl⟩
          obtain ⟨nk, hnk⟩ : ∃ n, next + (i : Int) = n := ⟨_, rfl⟩
          rw [hr1] at HRW ⊢
          rw [hQ] at HVO HOB
          rw [hnk] at HOB
          obtain ⟨hE0, hE1, hE2, hE3⟩ := HBD.out
          have HBW : Hid (Below w.heap.size w wr) := hid (HB5.out.trans (HB.out.mono (by omega)))
          have hxr := (HB.out.block g (by omega)).trans HX5.out
          have HXr := hid hxr
          have HYr := hid ((HB.out.block (g + 1) hgo).trans HY5.out)
          have HQQ := hid hQ
          have HNK := hid hnk
          have HR1L := hid hr1
          have hr1c : r1 ≤ 1000000 := by have := HCL.out; have := HCC.out; rw [← hr1, List.length_drop]; omega
          have HR1C := hid hr1c
          clear hQ hnk hr1 hr1c
          by_cases hiK : i < K
          · have hiK' : (i : Int) < (K : Int) := by omega
            have x0 := cell_of_row _ _ 0 _ _ _ hxr
            have x1 := cell_of_row _ _ 1 _ _ _ hxr
            have e1 : IntKind.i64.wrap (mx - mn) = mx - mn := by rw [IntKind.wrap_i64]; omega
            have e2 : IntKind.i64.wrap (mx - mn + 1) = mx - mn + 1 := by rw [IntKind.wrap_i64]; omega
            have HDC2 := hid (rdecide_any (ch.drop (i + 1)) (.slice rA r1 rc) (mx - mn + 1) wr (ints_of_own HRW.out (fun x hx => HC.out.1 x (List.mem_of_mem_drop hx))) (by rw [HR1L.out]; exact HR1C.out) (by omega) (by omega))
            clear hxr
            go_upto_region 30 with fail
            go_wp2_with fail
            refine HDC2.out.mono ?_
            rintro e w6 ⟨rv2, rfl, hr6, hb6⟩
            obtain ⟨sA, sc, rfl⟩ := own_formE hr6
            obtain ⟨d, hd⟩ : ∃ d, dec (ch.drop (i + 1)) (mx - mn + 1) = d := ⟨_, rfl⟩
            obtain ⟨r2, hr2⟩ : ∃ r, (ch.drop (i + 1)).tail.length = r := ⟨_, rfl⟩
            have hd0 : 0 ≤ d := by rw [← hd]; exact dec_lo _ (by omega)
            have hd1 : d < mx - mn + 1 := by rw [← hd]; exact dec_hi _ (by omega)
            rw [hr2] at hr6
            rw [hd, hr2]
            have HOBr := hid ((hb6.block _ (box_lt HOB.out)).trans HOB.out)
            have HX6 := hid ((hb6.block _ (box_lt HXr.out)).trans HXr.out)
            have HBW6 := hid (HBW.out.trans (hb6.mono HBW.out.size))
            have HB6 : Hid (Below o w5 w6) := hid (HB.out.trans (hb6.mono (Nat.le_of_lt (box_lt HOB.out))))
            have HVO6 := hid (own_keep HVO.out (keep_below hb6))
            have HPP6 := hid (fun x hx => (HPP.out x hx).keep (keep_below hb6))
            have HR6 := hid (own_base hr6 (Nat.zero_le _))
            have how := box_lt HOBr.out
            have HD := hid hd
            have HR2L := hid hr2
            have hie : (i : Int) ≤ 2 := by omega
            have hnk0 : 0 ≤ nk ∧ nk ≤ 1073741824 := by have := HNK.out; omega
            have e3 : IntKind.i64.wrap (E + mn) = E + mn := by rw [IntKind.wrap_i64]; omega
            have e4 : IntKind.i64.wrap (E + mn + d) = E + mn + d := by rw [IntKind.wrap_i64]; omega
            have e5 : IntKind.i64.wrap (nk + 1) = nk + 1 := by rw [IntKind.wrap_i64]; omega
            have hdls := dls_bd hc1 hc2 hE0 hE1 i ch.tail
            have HOKi := hid (lau_ok HOK.out rfl E p (by rw [HM.out]; omega) (dls mn (mx - mn + 1) i ch.tail) (by omega) hdls (by rw [dls_len]; dsimp only; omega) (by rw [dls_len, List.length_map, HN.out]; omega))
            have hQl : Q ≤ 100000 := by
              have h1 := congrArg List.length HCR.out
              rw [List.length_map, lau_len, dls_len, List.length_map, HQQ.out, HN.out] at h1
              omega
            have HCO := hid (fun X (hX : Below w6.heap.size w6 X) => copied_any p _ X (HP.out.below (HBW6.out.trans (hX.mono HBW6.out.size))) HPN.out (by rw [HM.out]; omega))
            have HIN := hid (fun X (hX : Below w6.heap.size w6 X) (kA : Option Addr) (kc : Nat) => refInsert_any vs _ (E + mn + d) nk kA M kc p X ((fl_of_own HVO6.out HQQ.out HPP6.out).below hX) (by rw [HQQ.out]; exact hQl) (by rw [HCR.out]; exact HOKi.out.ord))
            have HK := hid (fun X (hX : Below w6.heap.size w6 X) => (show X.cell? ⟨o, 6, none⟩ = some (.slice fA Q fc) ∧ X.cell? ⟨o, 5, none⟩ = some (.int .i64 nk) ∧ X.cell? ⟨g, 0, none⟩ = some (.int .i64 mn) from ⟨cell_of_row _ _ 6 _ _ _ ((hX.block _ (box_lt HOBr.out)).trans HOBr.out), cell_of_row _ _ 5 _ _ _ ((hX.block _ (box_lt HOBr.out)).trans HOBr.out), cell_of_row _ _ 0 _ _ _ ((hX.block _ (box_lt HX6.out)).trans HX6.out)⟩))
            have H8 := hid HP.out.1
            clear hr6 hb6 hd hr2 x0 x1 e1 e2 hdls HDC2
            go_upto_region 31 with fail
            refine region_tail 16 (fun X => X.cell? ⟨o, 6, none⟩ = some (.slice fA Q fc) ∧ X.cell? ⟨o, 5, none⟩ = some (.int .i64 nk) ∧ X.cell? ⟨g, 0, none⟩ = some (.int .i64 mn)) (by kernel_rfl) ?_
            obtain ⟨X0, hX0⟩ : ∃ X, w6.drew = X := ⟨_, rfl⟩
            have hB0 : Below w6.heap.size w6 X0 := by rw [← hX0]; exact (Below.refl w6.heap.size w6).drew
            have hHeld := HK.out X0 hB0
            rw [hX0]
            clear hX0
            refine' wpAnyT_take (i := 0) (oi := ?oia0) (v := ?va0) ?hia0 (by kernel_rfl) (by kernel_rfl) ?hqa0 ?hya0 hHeld ?resta0
            case hia0 => (simp only [List.getElem?_toArray, List.getElem?_cons_zero]; rfl)
            case hqa0 => exact fun _ _ _ h => h
            case hya0 => (refine Or.inl ⟨by rfl, ?_⟩; intro w' hSw; (try dsimp only at hSw); go_simp; try with_reducible rfl)
            (try simp only [Act.put, List.setIfInBounds_toArray, List.set_cons_zero, List.set_cons_succ])
            refine' wpAnyT_take (i := 1) (oi := ?oia1) (v := ?va1) ?hia1 (by kernel_rfl) (by kernel_rfl) ?hqa1 ?hya1 hHeld ?resta1
            case hia1 => (simp only [List.getElem?_toArray, List.getElem?_cons_zero, List.getElem?_cons_succ]; rfl)
            case hqa1 => exact fun _ _ _ h => h
            case hya1 => (refine Or.inl ⟨by rfl, ?_⟩; intro w' hSw; (try dsimp only at hSw); go_simp; try with_reducible rfl)
            (try simp only [Act.put, List.setIfInBounds_toArray, List.set_cons_zero, List.set_cons_succ])
            refine' wpAnyT_take (i := 2) (oi := ?oia2) (v := ?va2) ?hia2 (by kernel_rfl) (by kernel_rfl) ?hqa2 ?hya2 hHeld ?resta2
            case hia2 => (simp only [List.getElem?_toArray, List.getElem?_cons_zero, List.getElem?_cons_succ]; rfl)
            case hqa2 => exact fun _ _ _ h => h
            case hya2 => (refine Or.inl ⟨by rfl, ?_⟩; intro w' hSw; (try dsimp only at hSw); go_simp; try with_reducible rfl)
            (try simp only [Act.put, List.setIfInBounds_toArray, List.set_cons_zero, List.set_cons_succ])
            refine' wpAnyT_take (i := 3) (oi := ?oia3) (v := ?va3) ?hia3 (by kernel_rfl) (by kernel_rfl) ?hqa3 ?hya3 hHeld ?resta3
            case hia3 => (simp only [List.getElem?_toArray, List.getElem?_cons_zero, List.getElem?_cons_succ]; rfl)
            case hqa3 => exact fun _ _ _ h => h
            case hya3 => (refine Or.inl ⟨by rfl, ?_⟩; intro w' hSw; (try dsimp only at hSw); go_simp; try with_reducible rfl)
            (try simp only [Act.put, List.setIfInBounds_toArray, List.set_cons_zero, List.set_cons_succ])
            refine' wpAnyT_take (i := 4) (oi := ?oia4) (v := ?va4) ?hia4 (by kernel_rfl) (by kernel_rfl) ?hqa4 ?hya4 hHeld ?resta4
            case hia4 => (simp only [List.getElem?_toArray, List.getElem?_cons_zero, List.getElem?_cons_succ]; rfl)
            case hqa4 => exact fun _ _ _ h => h
            case hya4 => (refine Or.inl ⟨by rfl, ?_⟩; intro w' hSw; (try dsimp only at hSw); go_simp; try with_reducible rfl)
            (try simp only [Act.put, List.setIfInBounds_toArray, List.set_cons_zero, List.set_cons_succ])
            refine' wpAnyT_take (i := 5) (oi := ?oia5) (v := ?va5) ?hia5 (by kernel_rfl) (by kernel_rfl) ?hqa5 ?hya5 hHeld ?resta5
            case hia5 => (simp only [List.getElem?_toArray, List.getElem?_cons_zero, List.getElem?_cons_succ]; rfl)
            case hqa5 => exact fun _ _ _ h => h
            case hya5 => (refine Or.inl ⟨by rfl, ?_⟩; intro w' hSw; (try dsimp only at hSw); go_simp; try with_reducible rfl)
            (try simp only [Act.put, List.setIfInBounds_toArray, List.set_cons_zero, List.set_cons_succ])
            refine' wpAnyT_take (i := 6) (oi := ?oia6) (v := ?va6) ?hia6 (by kernel_rfl) (by kernel_rfl) ?hqa6 ?hya6 hHeld ?resta6
            case hia6 => (simp only [List.getElem?_toArray, List.getElem?_cons_zero, List.getElem?_cons_succ]; rfl)
            case hqa6 => exact fun _ _ _ h => h
            case hya6 => (refine Or.inl ⟨by rfl, ?_⟩; intro w' hSw; (try dsimp only at hSw); go_simp; try with_reducible rfl)
            (try simp only [Act.put, List.setIfInBounds_toArray, List.set_cons_zero, List.set_cons_succ])
            refine' wpAnyT_take (i := 7) (oi := ?oia7) (v := ?va7) ?hia7 (by kernel_rfl) (by kernel_rfl) ?hqa7 ?hya7 hHeld ?resta7
            case hia7 => (simp only [List.getElem?_toArray, List.getElem?_cons_zero, List.getElem?_cons_succ]; rfl)
            case hqa7 => exact fun _ _ _ h => h
            case hya7 => (refine Or.inl ⟨by rfl, ?_⟩; intro w' hSw; (try dsimp only at hSw); go_simp; try with_reducible rfl)
            (try simp only [Act.put, List.setIfInBounds_toArray, List.set_cons_zero, List.set_cons_succ])
            refine' wpAnyT_take (i := 8) (oi := ?oia8) (v := ?va8) ?hia8 (by kernel_rfl) (by kernel_rfl) ?hqa8 ?hya8 hHeld ?resta8
            case hia8 => (simp only [List.getElem?_toArray, List.getElem?_cons_zero, List.getElem?_cons_succ]; rfl)
            case hqa8 => exact fun _ _ _ h => h
            case hya8 => (refine Or.inl ⟨by rfl, ?_⟩; intro w' hSw; (try dsimp only at hSw); go_simp; try with_reducible rfl)
            (try simp only [Act.put, List.setIfInBounds_toArray, List.set_cons_zero, List.set_cons_succ])
            refine' wpAnyT_take (i := 9) (oi := ?oia9) (v := ?va9) ?hia9 (by kernel_rfl) (by kernel_rfl) ?hqa9 ?hya9 hHeld ?resta9
            case hia9 => (simp only [List.getElem?_toArray, List.getElem?_cons_zero, List.getElem?_cons_succ]; rfl)
            case hqa9 => exact fun _ _ _ h => h
            case hya9 => (refine Or.inl ⟨by rfl, ?_⟩; intro w' hSw; (try dsimp only at hSw); go_simp; try with_reducible rfl)
            (try simp only [Act.put, List.setIfInBounds_toArray, List.set_cons_zero, List.set_cons_succ])
            refine' wpAnyT_take (i := 10) (oi := ?oia10) (v := ?va10) ?hia10 (by kernel_rfl) (by kernel_rfl) ?hqa10 ?hya10 hHeld ?resta10
            case hia10 => (simp only [List.getElem?_toArray, List.getElem?_cons_zero, List.getElem?_cons_succ]; rfl)
            case hqa10 => exact fun _ _ _ h => h
            case hya10 => (refine Or.inl ⟨by rfl, ?_⟩; intro w' hSw; (try dsimp only at hSw); go_simp; try with_reducible rfl)
            (try simp only [Act.put, List.setIfInBounds_toArray, List.set_cons_zero, List.set_cons_succ])
            refine' wpAnyT_take (i := 11) (oi := ?oia11) (v := ?va11) ?hia11 (by kernel_rfl) (by kernel_rfl) ?hqa11 ?hya11 hHeld ?resta11
            case hia11 => (simp only [List.getElem?_toArray, List.getElem?_cons_zero, List.getElem?_cons_succ]; rfl)
            case hqa11 => exact fun _ _ _ h => h
            case hya11 => (refine Or.inl ⟨by rfl, ?_⟩; intro w' hSw; (try dsimp only at hSw); go_simp; try with_reducible rfl)
            (try simp only [Act.put, List.setIfInBounds_toArray, List.set_cons_zero, List.set_cons_succ])
            refine' wpAnyT_one (i := 12) (o := ?oia12) (by kernel_rfl) ?hia12 (fun K hK => ?sta12)
            case hia12 => (simp only [List.getElem?_toArray, List.getElem?_cons_zero, List.getElem?_cons_succ]; rfl)
            go_simp
            go_at_call 48
            refine (HCO.out X0 hB0).mono ?_
            rintro e X1 ⟨cv, rfl, hco, hbc⟩
            obtain ⟨kA, kc, rfl⟩ := own_form hco
            rw [HM.out] at hco ⊢
            have hB1 : Below w6.heap.size w6 X1 := hB0.trans (hbc.mono hB0.size)
            have HCV := hid hco
            clear hbc hHeld hco
            have hHeld := HK.out X1 hB1
            refine hK.out _ _ (fun _ => hHeld) ?_
            clear hK K
            (try simp only [Act.put, List.setIfInBounds_toArray, List.set_cons_zero, List.set_cons_succ])
            refine' wpAnyT_take (i := 13) (oi := ?oia13) (v := ?va13) ?hia13 (by kernel_rfl) (by kernel_rfl) ?hqa13 ?hya13 hHeld ?resta13
            case hia13 => (simp only [List.getElem?_toArray, List.getElem?_cons_zero, List.getElem?_cons_succ]; rfl)
            case hqa13 => exact fun _ _ _ h => h
            case hya13 => (refine Or.inl ⟨by rfl, ?_⟩; intro w' hSw; (try dsimp only at hSw); go_simp; try with_reducible rfl)
            (try simp only [Act.put, List.setIfInBounds_toArray, List.set_cons_zero, List.set_cons_succ])
            refine' wpAnyT_one (i := 14) (o := ?oia14) (by kernel_rfl) ?hia14 (fun K hK => ?sta14)
            case hia14 => (simp only [List.getElem?_toArray, List.getElem?_cons_zero, List.getElem?_cons_succ]; rfl)
            go_simp
            go_at_call 47
            refine (HIN.out X1 hB1 kA kc).mono ?_
            rintro e X2 ⟨nv, rfl, hno, hbc⟩
            obtain ⟨nA, nc, rfl⟩ := own_form69 hno
            obtain ⟨nl, hnl⟩ : ∃ x, (insL vs ⟨E + mn + d, nk, .slice kA M kc, p⟩).length = x := ⟨_, rfl⟩
            rw [hnl] at hno ⊢
            have hB2 : Below w6.heap.size w6 X2 := hB1.trans (hbc.mono hB1.size)
            have HNO := hid hno
            have HNLN := hid hnl
            have HCV2 := hid (own_keep HCV.out (keep_below hbc))
            clear hbc hHeld hno hnl
            have hHeld := HK.out X2 hB2
            have ho2 := (hB2.block o (box_lt HOBr.out)).trans HOBr.out
            have y6 := cell_of_row _ _ 6 _ _ _ ho2
            have f6 := box_fr ho2 6
            have HO2 := hid ho2
            clear ho2
            refine hK.out _ _ (fun _ => hHeld) ?_
            clear hK K
            refine' wpAnyT_one (i := 15) (o := ?oia15) (by kernel_rfl) ?hia15 (fun K hK => ?sta15)
            case hia15 => (simp only [List.getElem?_toArray, List.getElem?_cons_zero, List.getElem?_cons_succ]; rfl)
            go_simp
            refine hK.out _ _ (fun _ => hHeld) ?_
            clear hK K
            (try simp only [Act.put, List.setIfInBounds_toArray, List.set_cons_zero, List.set_cons_succ])
            refine' wpAnyT_one (i := 16) (o := ?oia16) (by kernel_rfl) ?hia16 (fun K hK => ?sta16)
            case hia16 => (simp only [List.getElem?_toArray, List.getElem?_cons_zero, List.getElem?_cons_succ]; rfl)
            go_simp
            obtain ⟨X3, hX3⟩ : ∃ X, X2.setCell ⟨o, 6, none⟩ (.slice nA nl nc) = X := ⟨_, rfl⟩
            rw [hX3]
            have HO3 : Hid (X3.heap[o]? = some (.cells #[.int .i64 mn, .int .i64 mx, .int .i64 rt, .bool false, .int .i64 E, .int .i64 nk, .slice nA nl nc] 26)) := hid (by
              rw [← hX3]
              exact box_set (cs := [.int .i64 mn, .int .i64 mx, .int .i64 rt, .bool false, .int .i64 E, .int .i64 nk, .slice fA Q fc]) HO2.out 6 _)
            have hk3 : ∀ T, T ≠ 26 → Keep T X2 X3 := fun T hT => by
              rw [← hX3]
              exact keep_box HO2.out hT _ _
            have HNO3 := hid (own_keep HNO.out (hk3 69 (by decide)))
            have HCV3 := hid (own_keep HCV2.out (hk3 5 (by decide)))
            have HKK3 := hid hk3
            have HB3 : Hid (Below o w6 X3) := hid (by rw [← hX3]; exact (hB2.mono (Nat.le_of_lt how)).setCell (Nat.le_refl _) _)
            clear hX3 hk3
            refine hK.out _ _ (fun h => absurd h (by decide)) ?_
            clear hK K
            (try simp only [Act.put, List.setIfInBounds_toArray, List.set_cons_zero, List.set_cons_succ])
            refine wpAnyT_done (by kernel_rfl) ?_ _
            have z5 := cell_of_row _ _ 5 _ _ _ HO3.out
            have fz5 := box_fr HO3.out 5
            obtain ⟨X4, hX4⟩ : ∃ X, X3.setCell ⟨o, 5, none⟩ (.int .i64 (nk + 1)) = X := ⟨_, rfl⟩
            have HO4' : Hid (X4.heap[o]? = some (.cells #[.int .i64 mn, .int .i64 mx, .int .i64 rt, .bool false, .int .i64 E, .int .i64 (nk + 1), .slice nA nl nc] 26)) := hid (by
              rw [← hX4]
              exact box_set (cs := [.int .i64 mn, .int .i64 mx, .int .i64 rt, .bool false, .int .i64 E, .int .i64 nk, .slice nA nl nc]) HO3.out 5 _)
            have hk4 : ∀ T, T ≠ 26 → Keep T X2 X4 := fun T hT => (HKK3.out T hT).trans (by rw [← hX4]; exact keep_box HO3.out hT _ _)
            have hk6 : ∀ T, T ≠ 26 → Keep T w6 X4 := fun T hT => (keep_below hB2).trans (hk4 T hT)
            have HNO4 := hid (own_base (own_keep HNO.out (hk4 69 (by decide))) (Nat.zero_le _))
            have HCV4 := hid (own_keep HCV2.out (hk4 5 (by decide)))
            have HPP4 := hid (fun x hx => (HPP6.out x hx).keep (hk6 5 (by decide)))
            have HR4' := hid (own_keep HR6.out (hk6 3 (by decide)))
            have HB4' : Hid (Below o w5 X4) := hid (HB6.out.trans (by rw [← hX4]; exact HB3.out.setCell (Nat.le_refl _) _))
            have HX4' := hid hX4
            have hn2 : i + 1 ≤ 3 := by omega
            clear hX4 hk4 hk6
            go_upto_region 28 with fail
            rw [HX4'.out]
            go_wp2_with fail
            go_roundw
            case rel =>
              refine ⟨i + 1, .slice nA nl nc, insL vs ⟨E + mn + d, nk, .slice kA M kc, p⟩, Nat.succ_le_of_lt hiK, by go_num, hid ?_, hid ?_, hid ?_, hid (fun y hy => ?_), hid ?_, HB4'⟩
              · have h := HR4'.out
                have et : (ch.drop (i + 1)).tail = ch.drop (i + 1 + 1) := by rw [List.tail_drop]
                have e6 : (ch.drop (i + 1 + 1)).length = r2 := by rw [← et]; exact HR2L.out
                rw [e6, ← et]
                exact h
              · rw [show next + ((i + 1 : Nat) : Int) = nk + 1 by have := HNK.out; omega]
                exact HO4'.out
              · rw [HNLN.out]
                exact HNO4.out
              · unfold insL at hy
                rcases List.mem_append.1 hy with hy | hy
                · rcases List.mem_append.1 hy with hy | hy
                  · exact HPP4.out y (List.mem_of_mem_take hy)
                  · rw [List.mem_singleton] at hy
                    subst hy
                    exact ⟨⟨_, by dsimp only; rw [HM.out]; exact HCV4.out⟩, H8.out⟩
                · exact HPP4.out y (List.mem_of_mem_drop hy)
              · have e7 : ch.tail.drop i = ch.drop (i + 1) := by rw [List.drop_tail]
                have e8 : core (⟨E + mn + d, nk, .slice kA M kc, p⟩ : Fl) = (E + (mn + d), nk, p) := by unfold core; dsimp only; rw [Int.add_assoc]
                rw [insL_core, HCR.out, dls_snoc, lau_snoc, dls_len, e7, HD.out, HNK.out, e8]
            case measure => simp [Lib.intOf]; omega
          · obtain rfl : K = i := by omega
            have hE : R = .ok (⟨mn, mx, rt, false, E, nk⟩, lau E p (dls mn (mx - mn + 1) K ch.tail) next (l.map core), ch.drop (K + 1)) := by rw [HR7.out, HNK.out]
            have HEE := hid hE
            clear hxr hE
            have z0 := cell_of_row _ _ 0 _ _ _ HOB.out
            have z1 := cell_of_row _ _ 1 _ _ _ HOB.out
            have z2 := cell_of_row _ _ 2 _ _ _ HOB.out
            have z3 := cell_of_row _ _ 3 _ _ _ HOB.out
            have z4 := cell_of_row _ _ 4 _ _ _ HOB.out
            have z5 := cell_of_row _ _ 5 _ _ _ HOB.out
            have z6 := cell_of_row _ _ 6 _ _ _ HOB.out
            have y0 := cell_of_row _ _ 0 _ _ _ HYr.out
            have y1 := cell_of_row _ _ 1 _ _ _ HYr.out
            have y2 := cell_of_row _ _ 2 _ _ _ HYr.out
            have y3 := cell_of_row _ _ 3 _ _ _ HYr.out
            have y4 := cell_of_row _ _ 4 _ _ _ HYr.out
            have y5 := cell_of_row _ _ 5 _ _ _ HYr.out
            have y6 := cell_of_row _ _ 6 _ _ _ HYr.out
            have fy0 := box_fr HYr.out 0
            have fy1 := box_fr HYr.out 1
            have fy2 := box_fr HYr.out 2
            have fy3 := box_fr HYr.out 3
            have fy4 := box_fr HYr.out 4
            have fy5 := box_fr HYr.out 5
            have fy6 := box_fr HYr.out 6
            go_upto_region 33 with fail
            go_wp2_with fail
            refine bodyPost_ret (results_v2 rfl _ _ (g + 1) _ rfl (lv26 (set7h _ _ _ _ _ _ _ HYr.out)) _ rfl _ rfl) rfl ?_
            have hkp := fun T (hT : T ≠ 26) => set7k HYr.out hT (.int .i64 mn) (.int .i64 mx) (.int .i64 rt) (.bool false) (.int .i64 E) (.int .i64 nk) (.slice fA Q fc)
            have hbF := set7b (.int .i64 mn) (.int .i64 mx) (.int .i64 rt) (.bool false) (.int .i64 E) (.int .i64 nk) (.slice fA Q fc) HBW.out (show w.heap.size ≤ g + 1 by omega)
            exact ⟨hbF, .inr ⟨_, _, _, _, _, vs, HEE.out, rfl, fl_of_own (own_keep HVO.out (hkp 69 (by decide))) HQQ.out (fun x hx => (HPP.out x hx).keep (hkp 5 (by decide))), HCR.out, ints_of_own (own_keep HRW.out (hkp 3 (by decide))) (fun x hx => HC.out.1 x (List.mem_of_mem_drop hx))⟩⟩
end Go.Proofs.Ytacpejoablcffaa
