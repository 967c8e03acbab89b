/- The law LinkCuts walked. -/
import Derived.Test.YtacpejoablcffaaV
namespace Go.Proofs.Ytacpejoablcffaa
open Go.RowKit Go.Lib

theorem cut_ok {s : Lk} {l : List Fc} (h : OkL s l) : cutS s l = (⟨s.mn, s.mx, s.rt, true, s.idle, s.next⟩, []) := by
  unfold cutS
  rw [if_neg (fun e => e ((chk_iff s l).2 h))]
theorem ok_empty {s : Lk} {l : List Fc} (h : OkL s l) (d : Bool) (t : Int) (ht : timeB t = true) : OkL ⟨s.mn, s.mx, s.rt, d, t, s.next⟩ [] :=
  ⟨h.cfg, timeB_le ht, h.next, by simp, fun _ => rfl, fun e he => (by cases he), List.Pairwise.nil, List.nodup_nil⟩
theorem time_of {t : Int} (h : 0 ≤ t ∧ t ≤ 1073741824) : timeB t = true := by unfold timeB; exact decide_eq_true h
theorem send_down {s : Lk} {now : Int} {p : List Nat} {ch : List Int} (h : OkL s []) (hd : s.dn = true) (ht : timeB now = true) (hp : p.length ≤ 65536) : sendS s [] now p ch = .ok (s, [], ch) := by
  unfold sendS
  rw [if_neg (fun e => e ((chk_iff s []).2 h)), if_neg (by simp [ht]), if_neg (by omega), if_pos hd]
theorem res_down {s : Lk} {now : Int} (h : OkL s []) (hd : s.dn = true) (ht : timeB now = true) : resS s [] now = (⟨s.mn, s.mx, s.rt, false, now, s.next⟩, []) := by
  unfold resS
  rw [if_pos ⟨(chk_iff s []).2 h, hd, ht⟩]
theorem send_up {s : Lk} {now : Int} (h : OkL s []) (hd : s.dn = false) (hi : s.idle = now) (h0 : 0 ≤ now) (h1 : now ≤ 70000) (hx : s.mx ≤ 100) (hn : s.next ≤ 100) :
    sendS s [] now [9] [] = .ok (⟨s.mn, s.mx, s.rt, false, now + tik 1 s.rt, s.next + 1⟩, [(now + tik 1 s.rt + s.mn, s.next, [9])], []) := by
  have h4 := tik_hi (m := 1) (by omega) h.cfg.2.2.2.1
  have h3 := tik_lo (m := 1) h.cfg.2.2.2.1
  have hmx := h.cfg.2.1
  have hm : max now s.idle = now := by rw [hi]; exact Int.max_self now
  unfold sendS
  rw [if_neg (fun e => e ((chk_iff s []).2 h)), if_neg (by simp [time_of (show 0 ≤ now ∧ now ≤ 1073741824 by omega)]), if_neg (by simp), if_neg (by simp [hd]), if_neg (by rw [hm]; simp; omega), if_neg (by simp; omega), hm, hd]
  have e1 : arr ([] : List Int) = 1 := rfl
  rw [e1]
  simp [dls, lau, insF, unt, dec]
theorem ok_up {s : Lk} {now : Int} (h : OkL s []) (h0 : 0 ≤ now) (h1 : now ≤ 70000) (hx : s.mx ≤ 100) (hn : s.next ≤ 100) :
    OkL ⟨s.mn, s.mx, s.rt, false, now + tik 1 s.rt, s.next + 1⟩ [(now + tik 1 s.rt + s.mn, s.next, [9])] := by
  have h4 := tik_hi (m := 1) (by omega) h.cfg.2.2.2.1
  have h3 := tik_lo (m := 1) h.cfg.2.2.2.1
  have hmx := h.cfg
  have hnx := h.next
  refine ⟨h.cfg, by dsimp only; omega, by dsimp only; omega, by simp, fun e => (by cases e), fun e he => ?_, List.pairwise_singleton _ _, by simp [nums]⟩
  rw [List.mem_singleton] at he
  subst he
  dsimp only
  simp
  omega
theorem del_up {s : Lk} {t n : Int} {p : List Nat} {u : Int} (h : OkL s [(t, n, p)]) (hu : t ≤ u) : delN s [(t, n, p)] u = 1 := by
  unfold delN
  rw [if_pos ((chk_iff _ _).2 h)]
  unfold unt
  rw [if_neg (by simp; omega)]
  rfl
theorem nxt_nil (s : Lk) : nxtS s [] = (0, false) := by unfold nxtS; split <;> rfl
set_option maxHeartbeats 4000000 in
set_option maxRecDepth 100000 in
theorem cuts_walk (mn mx rt : Int) (sv cv : Value) (sts : List (Nat × Nat)) (ch : List Int) (now : Int) (w : World) (hs : Sts w sv sts) (hc : Ints w cv ch) (hnw : (Lit.int .u16 now).wf = true) :
    Calls Try.prog 10 #[.agg #[.int .i64 mn, .int .i64 mx, .int .i64 rt, sv, cv], .int .u16 now] w (TrueQ w) := by
  obtain ⟨hw0, hw1⟩ : 0 ≤ now ∧ now ≤ 65535 := by
    have h := bounds_u16 hnw
    omega
  have ew : IntKind.i64.wrap now = now := by rw [IntKind.wrap_i64]; omega
  clear hnw
  obtain ⟨A, c, rfl⟩ := sts_form hs
  obtain ⟨B, c2, rfl⟩ := ints_form hc
  obtain ⟨N, hN⟩ : ∃ N, sts.length = N := ⟨_, rfl⟩
  obtain ⟨C, hC⟩ : ∃ C, ch.length = C := ⟨_, rfl⟩
  rw [hN] at hs ⊢
  rw [hC] at hc ⊢
  obtain ⟨g, hg⟩ : ∃ g, w.heap.size = g := ⟨_, rfl⟩
  obtain ⟨W1, hW1⟩ : ∃ X, w.alloc (.cells #[.int .i64 mn, .int .i64 mx, .int .i64 rt, .slice A N c, .slice B C c2] 58) = X := ⟨_, rfl⟩
  have hb1 : Below w.heap.size w W1 := by rw [← hW1]; exact al1 _ _
  have hx1 : W1.heap[g]? = some (.cells #[.int .i64 mn, .int .i64 mx, .int .i64 rt, .slice A N c, .slice B C c2] 58) := by rw [← hW1, ← hg]; exact heap_alloc_new w _
  have HFT := hid (fit_any mn mx rt A B N c C c2 W1)
  have HS := hid hs
  have HC := hid hc
  have HN := hid hN
  have HCC := hid hC
  have HB1 := hid hb1
  have HX1 := hid hx1
  have HW1 := hid hW1
  have HG := hid hg
  have x0 := cell_of_row _ _ 0 _ _ _ HX1.out
  have x1 := cell_of_row _ _ 1 _ _ _ HX1.out
  have x2 := cell_of_row _ _ 2 _ _ _ HX1.out
  have x3 := cell_of_row _ _ 3 _ _ _ HX1.out
  have x4 := cell_of_row _ _ 4 _ _ _ HX1.out
  clear hs hc hN hC hb1 hx1 hW1 hg 
  go_enter Try.func10, Try.ntmps10
  go_wp2_with fail
  rw [HW1.out, HG.out]
  refine HFT.out.mono ?_
  rintro e w2 ⟨rfl, hb2⟩
  have HX2 := hid ((hb2.block _ (box_lt HX1.out)).trans HX1.out)
  have HB2 := hid (HB1.out.trans (hb2.mono HB1.out.size))
  clear hb2 HFT x0 x1 x2 x3 x4

  by_cases hf : fitB mn mx rt N C = true
  rotate_left
  · have hf' : fitB mn mx rt N C = false := by simpa using hf
    rw [hf']
    go_wp2_with fail
    have HAW := hid (awake_any w2)
    refine HAW.out.mono ?_
    rintro e w3 ⟨rfl, hb3⟩
    go_wp2_with fail
    go_ret
    exact ⟨rfl, HB2.out.trans (hb3.mono HB2.out.size)⟩
  rw [hf]
  unfold fitB at hf
  have hf' := of_decide_eq_true hf
  obtain ⟨h0, h1, h2, h3, h4, hn20, hc100⟩ := hf'
  clear hf
  obtain ⟨r, hr⟩ : ∃ r, runK mn mx rt ch sts N = r := ⟨_, rfl⟩
  have HI : Hid (InvR mn mx rt ch N r) := hid (by rw [← hr]; exact runK_inv mn mx rt ch sts h0 h1 h2 h3 h4 (by rw [HN.out]; exact hn20) N (by rw [HN.out]; exact Nat.le_refl _))
  have HRN := hid (run_any mn mx rt sts _ ch _ w2 (HS.out.below HB2.out) (HC.out.below HB2.out) h0 h1 h2 h3 h4 (by rw [HN.out]; exact hn20) (by rw [HCC.out]; exact hc100))
  rw [HN.out, hr] at HRN
  have HR := hid hr
  clear hr
  have x0 := cell_of_row _ _ 0 _ _ _ HX2.out
  have x1 := cell_of_row _ _ 1 _ _ _ HX2.out
  have x2 := cell_of_row _ _ 2 _ _ _ HX2.out
  have x3 := cell_of_row _ _ 3 _ _ _ HX2.out
  have x4 := cell_of_row _ _ 4 _ _ _ HX2.out
  go_wp2_with fail
  refine HRN.out.mono ?_
  rintro e w3 ⟨v, tv, iv, kv, rfl, ⟨fv, vs, rfl, ho3, hv3, hp3⟩, ht3, hb3⟩
  obtain ⟨fA, fc, rfl⟩ := own_form69 ho3
  obtain ⟨q, hq⟩ : ∃ q, vs.length = q := ⟨_, rfl⟩
  rw [hq] at ho3
  unfold vLk
  dsimp only
  rw [hq]
  obtain ⟨m, hm⟩ : ∃ m, w3.heap.size = m := ⟨_, rfl⟩
  obtain ⟨W3, hW3⟩ : ∃ X, w3.alloc (.cells #[.int .i64 r.s.mn, .int .i64 r.s.mx, .int .i64 r.s.rt, .bool r.s.dn, .int .i64 r.s.idle, .int .i64 r.s.next, .slice fA q fc] 26) = X := ⟨_, rfl⟩
  have hz : Below w3.heap.size w3 W3 := by rw [← hW3]; exact al1 _ _
  have HM3 : Hid (W3.heap[m]? = some (.cells #[.int .i64 r.s.mn, .int .i64 r.s.mx, .int .i64 r.s.rt, .bool r.s.dn, .int .i64 r.s.idle, .int .i64 r.s.next, .slice fA q fc] 26)) := hid (by rw [← hW3, ← hm]; exact heap_alloc_new _ _)
  have HX3 := hid ((hz.block _ (Nat.lt_of_lt_of_le (box_lt HX2.out) hb3.size)).trans ((hb3.block _ (box_lt HX2.out)).trans HX2.out))
  have HO3 := hid (own_keep ho3 (keep_below hz))
  have HV3 := hid hv3
  have HQ := hid hq
  have HP3 := hid (fun x hx => (hp3 x hx).keep (keep_below hz))
  have HT3 := hid (ht3.keep (keep_below hz))
  have HB3 := hid (HB2.out.trans ((hb3.trans (hz.mono hb3.size)).mono HB2.out.size))
  have hgm : g ≤ m := by rw [← HG.out, ← hm]; exact (HB2.out.trans (hb3.mono HB2.out.size)).size
  have hgl : g < m := by rw [← hm]; exact Nat.lt_of_lt_of_le (box_lt HX2.out) hb3.size
  have HW3 := hid hW3
  have HM := hid hm
  clear hW3 hz ho3 hv3 hq hp3 ht3 hm HRN hb3
  clear x0 x1 x2 x3 x4
  have HOK := hid HI.out.ok
  have hmx100 : r.s.mx ≤ 100 := by rw [HI.out.cmx]; exact h2
  have hnx100 : r.s.next ≤ 100 := by have h5 := HI.out.next1; have h6 := HI.out.len1; omega
  go_upto_region 6 with fail
  rw [HW3.out, HM.out]
  have y0 := cell_of_row _ _ 0 _ _ _ HM3.out
  have y1 := cell_of_row _ _ 1 _ _ _ HM3.out
  have y2 := cell_of_row _ _ 2 _ _ _ HM3.out
  have y3 := cell_of_row _ _ 3 _ _ _ HM3.out
  have y4 := cell_of_row _ _ 4 _ _ _ HM3.out
  have y5 := cell_of_row _ _ 5 _ _ _ HM3.out
  have y6 := cell_of_row _ _ 6 _ _ _ HM3.out
  have hr64 : ∀ x ∈ vs, R64 x.n := fun x hx => by
    have h5 := HOK.out.fld (core x) (by rw [← HV3.out]; exact List.mem_map_of_mem hx)
    have h6 := HOK.out.next
    have e1 : (core x).2.1 = x.n := rfl
    unfold R64
    omega
  have hp64 : ∀ x ∈ vs, x.p.length ≤ 100000 := fun x hx => by
    have h5 := HOK.out.fld (core x) (by rw [← HV3.out]; exact List.mem_map_of_mem hx)
    have e1 : (core x).2.2 = x.p := rfl
    rw [e1] at h5
    omega
  have hl64 : vs.length ≤ 100000 := by
    have h5 := HOK.out.len
    have h6 : vs.length = r.l.length := by rw [← HV3.out, List.length_map]
    omega
  have HCU := hid (cut_any r.s vs (.slice fA q fc) W3 (fl_of_own HO3.out HQ.out HP3.out) hr64 hl64 hp64)
  rw [HV3.out, cut_ok HOK.out] at HCU
  unfold vLk at HCU
  clear hr64 hp64 hl64
  go_wp2_with fail
  refine HCU.out.mono ?_
  rintro e w4 ⟨v4, rfl, ⟨fv4, vs4, rfl, ho4, hv4, hp4⟩, hb4⟩
  obtain rfl : vs4 = [] := by simpa using hv4
  obtain ⟨f4, c4, rfl⟩ := own_form69 ho4
  unfold vLk
  dsimp only
  rw [show ([] : List Fl).length = 0 from rfl]
  have hm4 := (hb4.block _ (box_lt HM3.out)).trans HM3.out
  have hx4 := (hb4.block _ (box_lt HX3.out)).trans HX3.out
  clear y0 y1 y2 y3 y4 y5 y6
  obtain ⟨W4, hW4⟩ : ∃ X, (((((((w4.setCell ⟨m, 0, none⟩ (.int .i64 r.s.mn)).setCell ⟨m, 1, none⟩ (.int .i64 r.s.mx)).setCell ⟨m, 2, none⟩ (.int .i64 r.s.rt)).setCell ⟨m, 3, none⟩ (.bool true)).setCell ⟨m, 4, none⟩ (.int .i64 (r.s.idle))).setCell ⟨m, 5, none⟩ (.int .i64 (r.s.next))).setCell ⟨m, 6, none⟩ (.slice f4 0 c4)) = X := ⟨_, rfl⟩
  have HM4 : Hid (W4.heap[m]? = some (.cells #[.int .i64 r.s.mn, .int .i64 r.s.mx, .int .i64 r.s.rt, .bool true, .int .i64 (r.s.idle), .int .i64 (r.s.next), .slice f4 0 c4] 26)) := hid (by rw [← hW4]; exact set7h _ _ _ _ _ _ _ hm4)
  have HX4 : Hid (W4.heap[g]? = some (.cells #[.int .i64 mn, .int .i64 mx, .int .i64 rt, .slice A N c, .slice B C c2] 58)) := hid (by rw [← hW4]; exact (set7o _ _ _ _ _ _ _ (by omega)).trans hx4)
  have HF4 : Hid (FL W4 (.slice f4 0 c4) []) := hid (by rw [← hW4]; exact fl_of_own (own_keep ho4 (set7k hm4 (by decide) _ _ _ _ _ _ _)) rfl (fun x hx => by cases hx))
  have HB4 : Hid (Below w.heap.size w W4) := hid (by rw [← hW4]; exact set7b _ _ _ _ _ _ _ (HB3.out.trans (hb4.mono HB3.out.size)) (by rw [HG.out]; exact hgm))
  have HW4 := hid hW4
  have y0 := cell_of_row _ _ 0 _ _ _ hm4
  have y1 := cell_of_row _ _ 1 _ _ _ hm4
  have y2 := cell_of_row _ _ 2 _ _ _ hm4
  have y3 := cell_of_row _ _ 3 _ _ _ hm4
  have y4 := cell_of_row _ _ 4 _ _ _ hm4
  have y5 := cell_of_row _ _ 5 _ _ _ hm4
  have y6 := cell_of_row _ _ 6 _ _ _ hm4
  have fy0 := box_fr hm4 0
  have fy1 := box_fr hm4 1
  have fy2 := box_fr hm4 2
  have fy3 := box_fr hm4 3
  have fy4 := box_fr hm4 4
  have fy5 := box_fr hm4 5
  have fy6 := box_fr hm4 6
  clear hW4 ho4 hv4 hp4 hb4 hx4 hm4 HCU
  go_upto_region 7 with fail
  rw [HW4.out]
  clear y0 y1 y2 y3 y4 y5 y6 fy0 fy1 fy2 fy3 fy4 fy5 fy6
  have y0 := cell_of_row _ _ 0 _ _ _ HM4.out
  have y1 := cell_of_row _ _ 1 _ _ _ HM4.out
  have y2 := cell_of_row _ _ 2 _ _ _ HM4.out
  have y3 := cell_of_row _ _ 3 _ _ _ HM4.out
  have y4 := cell_of_row _ _ 4 _ _ _ HM4.out
  have y5 := cell_of_row _ _ 5 _ _ _ HM4.out
  have y6 := cell_of_row _ _ 6 _ _ _ HM4.out
  have HTM := hid (time_of (show 0 ≤ now ∧ now ≤ 1073741824 by omega))
  have HE1 := hid (ok_empty HOK.out true r.s.idle (time_of HOK.out.idle))
  obtain ⟨P5, hP5⟩ : ∃ X, W4.alloc (.cells #[.int .u8 9] 5) = X := ⟨_, rfl⟩
  have hbp5 : Below W4.heap.size W4 P5 := by rw [← hP5]; exact al1 _ _
  have hzp5 : P5.heap.size = W4.heap.size + 1 := by rw [← hP5]; simp
  have hp5 : Byt P5 (.slice (some ⟨W4.heap.size, 0, none⟩) 1 1) [9] := by rw [← hP5]; exact byt_of_own (own_new W4 ([9].map byteV) 5 1 1 rfl (by unfold maxLen; omega)) (b8_small rfl)
  obtain ⟨C5, hC5⟩ : ∃ X, P5.alloc (.cells #[.int .i64 2, .int .i64 1] 3) = X := ⟨_, rfl⟩
  have hbc5 : Below P5.heap.size P5 C5 := by rw [← hC5]; exact al1 _ _
  have hc5 : Ints C5 (.slice (some ⟨P5.heap.size, 0, none⟩) 2 2) [2, 1] := by rw [← hC5]; exact ints_of_own (own_new P5 ([2, 1].map intV) 3 1 2 rfl (by unfold maxLen; omega)) (fun x hx => by simp at hx; unfold R64; omega)
  have hbb5 : Below W4.heap.size W4 C5 := hbp5.trans (hbc5.mono hbp5.size)
  have HSE := hid (send_any ⟨r.s.mn, r.s.mx, r.s.rt, true, r.s.idle, r.s.next⟩ [] (.slice f4 0 c4) now [9] _ [2, 1] _ C5 (HF4.out.below hbb5) (fun x hx => by cases hx) (hp5.below hbc5) (nilOk_some _ _ _) hc5 (by simp))
  rw [hzp5] at HSE
  have HB5 := hid (HB4.out.trans (hbb5.mono HB4.out.size))
  have HM5 := hid ((hbb5.block _ (box_lt HM4.out)).trans HM4.out)
  have HF5 := hid (HF4.out.below hbb5)
  have HP5 := hid hP5
  have HC5 := hid hC5
  unfold vLk at HSE
  clear hP5 hbp5 hzp5 hp5 hC5 hbc5 hc5 hbb5
  go_wp2_with fail
  (try rw [ew])
  rw [HP5.out, HC5.out]
  refine HSE.out.mono ?_
  rintro e w6 h6
  obtain ⟨fv, cv6, vs6, rfl, ho6, hv6, hp6, hq6, hb6⟩ := send_ok h6 (send_down HE1.out rfl HTM.out (by simp))
  obtain rfl : vs6 = [] := by simpa using hv6
  obtain ⟨f6, c6, rfl⟩ := own_form69 ho6
  obtain ⟨cA6, cc6, rfl⟩ := own_formE hq6
  unfold vLk
  dsimp only
  rw [show ([] : List Fl).length = 0 from rfl, show ([2, 1] : List Int).length = 2 from rfl]
  clear y0 y1 y2 y3 y4 y5 y6
  obtain ⟨n, hn⟩ : ∃ n, w6.heap.size = n := ⟨_, rfl⟩
  obtain ⟨W6, hW6⟩ : ∃ X, w6.alloc (.cells #[.int .i64 r.s.mn, .int .i64 r.s.mx, .int .i64 r.s.rt, .bool true, .int .i64 (r.s.idle), .int .i64 (r.s.next), .slice f6 0 c6] 26) = X := ⟨_, rfl⟩
  have hz6 : Below w6.heap.size w6 W6 := by rw [← hW6]; exact al1 _ _
  have HN6 : Hid (W6.heap[n]? = some (.cells #[.int .i64 r.s.mn, .int .i64 r.s.mx, .int .i64 r.s.rt, .bool true, .int .i64 (r.s.idle), .int .i64 (r.s.next), .slice f6 0 c6] 26)) := hid (by rw [← hW6, ← hn]; exact heap_alloc_new _ _)
  have hb6' := hb6.trans (hz6.mono hb6.size)
  have HM6 := hid ((hb6'.block _ (box_lt HM5.out)).trans HM5.out)
  have HF6 : Hid (FL W6 (.slice f6 0 c6) []) := hid (fl_of_own (own_keep ho6 (keep_below hz6)) rfl (fun x hx => by cases hx))
  have HFM6 := hid (HF5.out.below hb6')
  have HI6 : Hid (Ints W6 (.slice cA6 2 cc6) [2, 1]) := hid (ints_of_own (own_keep hq6 (keep_below hz6)) (fun x hx => by simp at hx; unfold R64; omega))
  have HB6 := hid (HB5.out.trans (hb6'.mono HB5.out.size))
  have hgn : g ≤ n := by rw [← HG.out, ← hn]; exact (HB5.out.trans (hb6.mono HB5.out.size)).size
  have hmn : m < n := by rw [← hn]; exact Nat.lt_of_lt_of_le (box_lt HM5.out) hb6.size
  have HW6 := hid hW6
  have HNN := hid hn
  clear hW6 hz6 hn ho6 hv6 hp6 hq6 hb6 hb6' h6 HSE
  go_upto_region 8 with fail
  rw [HW6.out, HNN.out]
  obtain ⟨P7, hP7⟩ : ∃ X, W6.alloc (.cells #[.int .i64 2, .int .i64 1] 3) = X := ⟨_, rfl⟩
  have hbp7 : Below W6.heap.size W6 P7 := by rw [← hP7]; exact al1 _ _
  have hi7 : Ints P7 (.slice (some ⟨W6.heap.size, 0, none⟩) 2 2) [2, 1] := by rw [← hP7]; exact ints_of_own (own_new W6 ([2, 1].map intV) 3 1 2 rfl (by unfold maxLen; omega)) (fun x hx => by simp at hx; unfold R64; omega)
  have HSI := hid (sameInts_any [2, 1] _ _ P7 (HI6.out.below hbp7) hi7 (by simp))
  have HM7 := hid ((hbp7.block _ (box_lt HM6.out)).trans HM6.out)
  have HN7 := hid ((hbp7.block _ (box_lt HN6.out)).trans HN6.out)
  have HF7 := hid (HF6.out.below hbp7)
  have HFM7 := hid (HFM6.out.below hbp7)
  have HB7 := hid (HB6.out.trans (hbp7.mono HB6.out.size))
  have HP7 := hid hP7
  clear hP7 hbp7 hi7
  go_wp2_with fail
  rw [HP7.out]
  refine HSI.out.mono ?_
  rintro e w8 ⟨rfl, hb8⟩
  have HM8 := hid ((hb8.block _ (box_lt HM7.out)).trans HM7.out)
  have HN8 := hid ((hb8.block _ (box_lt HN7.out)).trans HN7.out)
  have HF8 := hid (HF7.out.below hb8)
  have HFM8 := hid (HFM7.out.below hb8)
  have HB8 := hid (HB7.out.trans (hb8.mono HB7.out.size))
  clear hb8 HSI
  have y0 := cell_of_row _ _ 0 _ _ _ HM8.out
  have y1 := cell_of_row _ _ 1 _ _ _ HM8.out
  have y2 := cell_of_row _ _ 2 _ _ _ HM8.out
  have y3 := cell_of_row _ _ 3 _ _ _ HM8.out
  have y4 := cell_of_row _ _ 4 _ _ _ HM8.out
  have y5 := cell_of_row _ _ 5 _ _ _ HM8.out
  have y6 := cell_of_row _ _ 6 _ _ _ HM8.out
  have z0 := cell_of_row _ _ 0 _ _ _ HN8.out
  have z1 := cell_of_row _ _ 1 _ _ _ HN8.out
  have z2 := cell_of_row _ _ 2 _ _ _ HN8.out
  have z3 := cell_of_row _ _ 3 _ _ _ HN8.out
  have z4 := cell_of_row _ _ 4 _ _ _ HN8.out
  have z5 := cell_of_row _ _ 5 _ _ _ HN8.out
  have z6 := cell_of_row _ _ 6 _ _ _ HN8.out
  have HSM := hid (same_any ⟨r.s.mn, r.s.mx, r.s.rt, true, r.s.idle, r.s.next⟩ [] [] (.slice f4 0 c4) (.slice f6 0 c6) w8 HFM8.out HF8.out (by simp) rfl)
  unfold vLk at HSM
  go_wp2_with fail
  refine HSM.out.mono ?_
  rintro e w9 ⟨rfl, hb9⟩
  clear y0 y1 y2 y3 y4 y5 y6 z0 z1 z2 z3 z4 z5 z6
  have HN9 := hid ((hb9.block _ (box_lt HN8.out)).trans HN8.out)
  have HF9 := hid (HF8.out.below hb9)
  have HB9 := hid (HB8.out.trans (hb9.mono HB8.out.size))
  clear hb9 HSM
  have z0 := cell_of_row _ _ 0 _ _ _ HN9.out
  have z1 := cell_of_row _ _ 1 _ _ _ HN9.out
  have z2 := cell_of_row _ _ 2 _ _ _ HN9.out
  have z3 := cell_of_row _ _ 3 _ _ _ HN9.out
  have z4 := cell_of_row _ _ 4 _ _ _ HN9.out
  have z5 := cell_of_row _ _ 5 _ _ _ HN9.out
  have z6 := cell_of_row _ _ 6 _ _ _ HN9.out
  go_upto_region 10 with fail
  have HNX := hid (next_any ⟨r.s.mn, r.s.mx, r.s.rt, true, r.s.idle, r.s.next⟩ [] (.slice f6 0 c6) w9 HF9.out (fun x hx => by cases hx))
  rw [show ([] : List Fl).map core = [] from rfl, nxt_nil] at HNX
  unfold vLk at HNX
  go_wp2_with fail
  refine HNX.out.mono ?_
  rintro e w10 ⟨rfl, hb10⟩
  clear z0 z1 z2 z3 z4 z5 z6
  have HN10 := hid ((hb10.block _ (box_lt HN9.out)).trans HN9.out)
  have HF10 := hid (HF9.out.below hb10)
  have HB10 := hid (HB9.out.trans (hb10.mono HB9.out.size))
  clear hb10 HNX
  have z0 := cell_of_row _ _ 0 _ _ _ HN10.out
  have z1 := cell_of_row _ _ 1 _ _ _ HN10.out
  have z2 := cell_of_row _ _ 2 _ _ _ HN10.out
  have z3 := cell_of_row _ _ 3 _ _ _ HN10.out
  have z4 := cell_of_row _ _ 4 _ _ _ HN10.out
  have z5 := cell_of_row _ _ 5 _ _ _ HN10.out
  have z6 := cell_of_row _ _ 6 _ _ _ HN10.out
  go_upto_region 13 with fail
  have HRS := hid (restore_any ⟨r.s.mn, r.s.mx, r.s.rt, true, r.s.idle, r.s.next⟩ [] (.slice f6 0 c6) now w10 HF10.out (fun x hx => by cases hx) (by simp) (fun x hx => by cases hx))
  rw [show ([] : List Fl).map core = [] from rfl, res_down HE1.out rfl HTM.out] at HRS
  unfold vLk at HRS
  go_wp2_with fail
  (try rw [ew])
  refine HRS.out.mono ?_
  rintro e w11 ⟨v11, rfl, ⟨fv11, vs11, rfl, ho11, hv11, hp11⟩, hb11⟩
  obtain rfl : vs11 = [] := by simpa using hv11
  obtain ⟨f11, c11, rfl⟩ := own_form69 ho11
  unfold vLk
  dsimp only
  rw [show ([] : List Fl).length = 0 from rfl]
  have hn11 := (hb11.block _ (box_lt HN10.out)).trans HN10.out
  clear z0 z1 z2 z3 z4 z5 z6
  obtain ⟨W11, hW11⟩ : ∃ X, (((((((w11.setCell ⟨n, 0, none⟩ (.int .i64 r.s.mn)).setCell ⟨n, 1, none⟩ (.int .i64 r.s.mx)).setCell ⟨n, 2, none⟩ (.int .i64 r.s.rt)).setCell ⟨n, 3, none⟩ (.bool false)).setCell ⟨n, 4, none⟩ (.int .i64 (now))).setCell ⟨n, 5, none⟩ (.int .i64 (r.s.next))).setCell ⟨n, 6, none⟩ (.slice f11 0 c11)) = X := ⟨_, rfl⟩
  have HN11 : Hid (W11.heap[n]? = some (.cells #[.int .i64 r.s.mn, .int .i64 r.s.mx, .int .i64 r.s.rt, .bool false, .int .i64 (now), .int .i64 (r.s.next), .slice f11 0 c11] 26)) := hid (by rw [← hW11]; exact set7h _ _ _ _ _ _ _ hn11)
  have HF11 : Hid (FL W11 (.slice f11 0 c11) []) := hid (by rw [← hW11]; exact fl_of_own (own_keep ho11 (set7k hn11 (by decide) _ _ _ _ _ _ _)) rfl (fun x hx => by cases hx))
  have HB11 : Hid (Below w.heap.size w W11) := hid (by rw [← hW11]; exact set7b _ _ _ _ _ _ _ (HB10.out.trans (hb11.mono HB10.out.size)) (by rw [HG.out]; exact hgn))
  have HW11 := hid hW11
  have z0 := cell_of_row _ _ 0 _ _ _ hn11
  have z1 := cell_of_row _ _ 1 _ _ _ hn11
  have z2 := cell_of_row _ _ 2 _ _ _ hn11
  have z3 := cell_of_row _ _ 3 _ _ _ hn11
  have z4 := cell_of_row _ _ 4 _ _ _ hn11
  have z5 := cell_of_row _ _ 5 _ _ _ hn11
  have z6 := cell_of_row _ _ 6 _ _ _ hn11
  have fz0 := box_fr hn11 0
  have fz1 := box_fr hn11 1
  have fz2 := box_fr hn11 2
  have fz3 := box_fr hn11 3
  have fz4 := box_fr hn11 4
  have fz5 := box_fr hn11 5
  have fz6 := box_fr hn11 6
  clear hW11 ho11 hv11 hp11 hb11 hn11 HRS
  go_upto_region 14 with fail
  rw [HW11.out]
  clear z0 z1 z2 z3 z4 z5 z6 fz0 fz1 fz2 fz3 fz4 fz5 fz6
  have z0 := cell_of_row _ _ 0 _ _ _ HN11.out
  have z1 := cell_of_row _ _ 1 _ _ _ HN11.out
  have z2 := cell_of_row _ _ 2 _ _ _ HN11.out
  have z3 := cell_of_row _ _ 3 _ _ _ HN11.out
  have z4 := cell_of_row _ _ 4 _ _ _ HN11.out
  have z5 := cell_of_row _ _ 5 _ _ _ HN11.out
  have z6 := cell_of_row _ _ 6 _ _ _ HN11.out
  have HE2 := hid (ok_empty HOK.out false now HTM.out)
  have HU := hid (send_up (now := now) HE2.out rfl rfl hw0 (by omega) hmx100 hnx100)
  have HOU := hid (ok_up (now := now) HE2.out hw0 (by omega) hmx100 hnx100)
  have htk0 := tik_lo (m := 1) HOK.out.cfg.2.2.2.1
  have htk1 := tik_hi (m := 1) (by omega) HOK.out.cfg.2.2.2.1
  obtain ⟨tk, htk⟩ : ∃ tk, tik 1 r.s.rt = tk := ⟨_, rfl⟩
  obtain ⟨P12, hP12⟩ : ∃ X, W11.alloc (.cells #[.int .u8 9] 5) = X := ⟨_, rfl⟩
  have hbp12 : Below W11.heap.size W11 P12 := by rw [← hP12]; exact al1 _ _
  have hp12 : Byt P12 (.slice (some ⟨W11.heap.size, 0, none⟩) 1 1) [9] := by rw [← hP12]; exact byt_of_own (own_new W11 ([9].map byteV) 5 1 1 rfl (by unfold maxLen; omega)) (b8_small rfl)
  have HSF := hid (send_any ⟨r.s.mn, r.s.mx, r.s.rt, false, now, r.s.next⟩ [] (.slice f11 0 c11) now [9] _ [] (.slice none 0 0) P12 (HF11.out.below hbp12) (fun x hx => by cases hx) hp12 (nilOk_some _ _ _) (ints_of_own (World.ownsRow_nil _ 0 3 1) (fun x hx => by cases hx)) (by simp))
  have HN12 := hid ((hbp12.block _ (box_lt HN11.out)).trans HN11.out)
  have HB12 := hid (HB11.out.trans (hbp12.mono HB11.out.size))
  have HP12 := hid hP12
  unfold vLk at HSF
  clear hP12 hbp12 hp12
  go_wp2_with fail
  (try rw [ew])
  rw [HP12.out]
  refine HSF.out.mono ?_
  rintro e w13 h13
  obtain ⟨fv, cv13, vs13, rfl, ho13, hv13, hp13, hq13, hb13⟩ := send_ok h13 HU.out
  obtain ⟨x13, rfl, hx13⟩ := cores1 hv13
  obtain ⟨f13, c13, rfl⟩ := own_form69 ho13
  obtain ⟨cA13, cc13, rfl⟩ := own_formE hq13
  unfold vLk
  dsimp only
  rw [show ([x13] : List Fl).length = 1 from rfl, show ([] : List Int).length = 0 from rfl]
  clear z0 z1 z2 z3 z4 z5 z6
  obtain ⟨p, hp⟩ : ∃ p, w13.heap.size = p := ⟨_, rfl⟩
  obtain ⟨W13, hW13⟩ : ∃ X, w13.alloc (.cells #[.int .i64 r.s.mn, .int .i64 r.s.mx, .int .i64 r.s.rt, .bool false, .int .i64 (now + tik 1 r.s.rt), .int .i64 (r.s.next + 1), .slice f13 1 c13] 26) = X := ⟨_, rfl⟩
  have hz13 : Below w13.heap.size w13 W13 := by rw [← hW13]; exact al1 _ _
  have HP13 : Hid (W13.heap[p]? = some (.cells #[.int .i64 r.s.mn, .int .i64 r.s.mx, .int .i64 r.s.rt, .bool false, .int .i64 (now + tik 1 r.s.rt), .int .i64 (r.s.next + 1), .slice f13 1 c13] 26)) := hid (by rw [← hW13, ← hp]; exact heap_alloc_new _ _)
  have hb13' := hb13.trans (hz13.mono hb13.size)
  have HF13 : Hid (FL W13 (.slice f13 1 c13) [x13]) := hid ((fl_of_own ho13 rfl hp13).below hz13)
  have HN13 := hid ((hb13'.block _ (box_lt HN12.out)).trans HN12.out)
  have HB13 := hid (HB12.out.trans (hb13'.mono HB12.out.size))
  have HW13 := hid hW13
  have HPP := hid hp
  clear hW13 hz13 hp ho13 hv13 hp13 hq13 hb13 hb13' h13 HSF htk
  go_upto_region 15 with fail
  rw [HW13.out, HPP.out]
  have z0 := cell_of_row _ _ 0 _ _ _ HP13.out
  have z1 := cell_of_row _ _ 1 _ _ _ HP13.out
  have z2 := cell_of_row _ _ 2 _ _ _ HP13.out
  have z3 := cell_of_row _ _ 3 _ _ _ HP13.out
  have z4 := cell_of_row _ _ 4 _ _ _ HP13.out
  have z5 := cell_of_row _ _ 5 _ _ _ HP13.out
  have z6 := cell_of_row _ _ 6 _ _ _ HP13.out
  have hmm := HOK.out.cfg.2.1
  have hr64 : ∀ y ∈ [x13], R64 y.n := fun y hy => by
    rw [List.mem_singleton] at hy
    subst hy
    have h5 := HOK.out.next
    rw [show y.n = r.s.next from congrArg (fun z : Fc => z.2.1) hx13]
    unfold R64; omega
  have HDV := hid (deliver_any ⟨r.s.mn, r.s.mx, r.s.rt, false, now + tik 1 r.s.rt, r.s.next + 1⟩ [x13] (.slice f13 1 c13) 1073741824 W13 HF13.out hr64 (by simp) (fun y hy => by
    rw [List.mem_singleton] at hy
    subst hy
    rw [show y.p = [9] from congrArg (fun z : Fc => z.2.2) hx13]
    simp))
  rw [show [x13].map core = [core x13] from rfl, hx13, del_up HOU.out (by omega)] at HDV
  unfold vLk at HDV
  clear hr64
  go_wp2_with fail
  refine HDV.out.mono ?_
  rintro e w14 ⟨v14, pv14, ps, rfl, ⟨fv14, vs14, rfl, ho14, hc14, hp14⟩, hq14, hk14, hl14, hb14⟩
  obtain ⟨p1, rfl, hp1⟩ := cores1 hk14
  obtain ⟨f14, c14, rfl⟩ := own_form69 ho14
  obtain ⟨qA, qc, rfl⟩ := own_formE hq14
  obtain rfl : vs14 = [] := by simpa using hc14
  unfold vLk
  dsimp only
  rw [show ([p1] : List Fl).length = 1 from rfl, show ([] : List Fl).length = 0 from rfl]
  clear z0 z1 z2 z3 z4 z5 z6
  obtain ⟨W14, hW14⟩ : ∃ X, w14.alloc (.cells #[.int .i64 r.s.mn, .int .i64 r.s.mx, .int .i64 r.s.rt, .bool false, .int .i64 (now + tik 1 r.s.rt), .int .i64 (r.s.next + 1), .slice f14 0 c14] 26) = X := ⟨_, rfl⟩
  have hz14 : Below w14.heap.size w14 W14 := by rw [← hW14]; exact al1 _ _
  have hb14' := hb14.trans (hz14.mono hb14.size)
  have HPY : Hid (PyL W14 (.slice qA 1 qc) [p1]) := hid ((py_of_own hq14 hl14).below hz14)
  have HN14 := hid ((hb14'.block _ (box_lt HN13.out)).trans HN13.out)
  have HB14 := hid (HB13.out.trans (hb14'.mono HB13.out.size))
  have HW14 := hid hW14
  clear hW14 hz14 ho14 hc14 hp14 hq14 hl14 hb14 hb14' HDV
  go_upto_region 16 with fail
  rw [HW14.out]
  have HAW := hid (awake_any W14)
  go_wp2_with fail
  refine HAW.out.mono ?_
  rintro e w15 ⟨rfl, hb15⟩
  have HN15 := hid ((hb15.block _ (box_lt HN14.out)).trans HN14.out)
  have HPY15 := hid (HPY.out.below hb15)
  have HB15 := hid (HB14.out.trans (hb15.mono HB14.out.size))
  clear hb15 HAW
  have z3 := cell_of_row _ _ 3 _ _ _ HN15.out
  obtain ⟨q2, hq2⟩ : ∃ q, w15.heap.size = q := ⟨_, rfl⟩
  obtain ⟨T1, hT1⟩ : ∃ X, w15.alloc (.cells #[.int .u8 9] 5) = X := ⟨_, rfl⟩
  obtain ⟨T2, hT2⟩ : ∃ X, T1.alloc (.cells #[.slice (some ⟨q2, 0, none⟩) 1 1] 37) = X := ⟨_, rfl⟩
  have hz1 : T1.heap.size = q2 + 1 := by rw [← hT1, ← hq2]; simp
  have hb1 : Below w15.heap.size w15 T1 := by rw [← hT1]; exact al1 _ _
  have hb2 : Below T1.heap.size T1 T2 := by rw [← hT2]; exact al1 _ _
  have ho1 : T2.ownsRow 0 5 1 (.slice (some ⟨q2, 0, none⟩) 1 1) 1 ([9].map byteV) := by
    have h := own_new w15 ([9].map byteV) 5 1 1 rfl (by unfold maxLen; omega)
    rw [hq2] at h
    have h' : T1.ownsRow q2 5 1 (.slice (some ⟨q2, 0, none⟩) 1 1) 1 ([9].map byteV) := by rw [← hT1]; exact h
    exact own_base (own_keep h' (keep_below hb2)) (Nat.zero_le _)
  have hpl : PyL T2 (.slice (some ⟨q2 + 1, 0, none⟩) 1 1) [⟨0, 0, .slice (some ⟨q2, 0, none⟩) 1 1, [9]⟩] := by
    have h := own_new T1 [.slice (some ⟨q2, 0, none⟩) 1 1] 37 1 1 rfl (by unfold maxLen; omega)
    rw [hz1] at h
    refine py_of_own (B := q2 + 1) (n := 1) (by rw [← hT2]; exact h) (fun x hx => ?_)
    rw [List.mem_singleton] at hx
    subst hx
    exact ⟨⟨0, ho1⟩, b8_small rfl⟩
  have hbT : Below w15.heap.size w15 T2 := hb1.trans (hb2.mono hb1.size)
  have HSP := hid (samePays_any [p1] _ (.slice qA 1 qc) (.slice (some ⟨q2 + 1, 0, none⟩) 1 1) T2 (HPY15.out.below hbT) hpl (by simp) (by
    have e1 : p1.p = [9] := congrArg (fun z : Fc => z.2.2) hp1
    simp [e1]))
  have HBT := hid (HB15.out.trans (hbT.mono HB15.out.size))
  have HT1 := hid hT1
  have HT2 := hid hT2
  have HZ1 := hid hz1
  have HQ2 := hid hq2
  clear hT1 hT2 hz1 hb1 hb2 ho1 hpl hbT hq2
  go_wp2_with fail
  (try rw [HQ2.out])
  rw [HT1.out]
  (try rw [HZ1.out])
  rw [HT2.out]
  refine HSP.out.mono ?_
  rintro e w16 ⟨rfl, hb16⟩
  go_wp2_with fail
  go_ret
  exact ⟨rfl, HBT.out.trans (hb16.mono HBT.out.size)⟩
end Go.Proofs.Ytacpejoablcffaa
